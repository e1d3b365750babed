package ground

import (
	"bytes"
	"maps"
	"math"
	"slices"
	"testing"

	"underpin/api"
	"underpin/cells"
	"underpin/ledger"
	"underpin/radix"
	"underpin/spans"
)

const most = 4096

// plain: what a ground is by the chapter, told page by page: of each, the first page of its span, or -1; of each span, by its first page, the entry; all states of the book so far, the last one being the present one; the stamp; and the memory.
type plain struct {
	first  []int
	entry  map[int]radix.Entry
	states []ledger.Row
	stamp  uint64
	bytes  []byte
}

func newPlain(pages int) *plain {
	return &plain{slices.Repeat([]int{-1}, pages), map[int]radix.Entry{}, []ledger.Row{{}}, 0, make([]byte, 256*pages)}
}

func (p *plain) clone() *plain {
	return &plain{slices.Clone(p.first), maps.Clone(p.entry), slices.Clone(p.states), p.stamp, slices.Clone(p.bytes)}
}

// runs goes from page to page; a run ends where the next page is of another span, or of none.
func (p *plain) runs() []spans.Run {
	var runs []spans.Run
	for page, first := range p.first {
		if page == 0 || first != p.first[page-1] {
			runs = append(runs, spans.Run{Page: page, Taken: first >= 0})
		}
		runs[len(runs)-1].N++
	}
	return runs
}

// begin: where in a run so many pages may be taken, by trying each of its pages; -1, if nowhere.
func begin(run spans.Run, n, align int) int {
	for page := run.Page; page < run.Page+run.N; page++ {
		if page%align == 0 && run.Page+run.N-page >= n {
			return page
		}
	}
	return -1
}

// place: where layer 8 takes, and its error.
func (p *plain) place(n, align int) (int, api.Errno) {
	powers := []int{1, 2, 4, 8, 16, 32, 64, 128, 256, 512, 1024, 2048, 4096}
	if n < 1 || !slices.Contains(powers, align) {
		return -1, api.ErrRange
	}
	page, length := -1, most+1
	for _, run := range p.runs() {
		if at := begin(run, n, align); !run.Taken && at >= 0 && run.N < length {
			page, length = at, run.N
		}
	}
	if page < 0 {
		return -1, api.ErrMemory
	}
	return page, api.OK
}

// length: how many pages the span has that begins at a page.
func (p *plain) length(page int) int {
	if _, ok := p.entry[page]; !ok {
		return 0
	}
	n := 0
	for _, first := range p.first {
		if first == page {
			n++
		}
	}
	return n
}

// note: one change more of the map, and one state more of the book, as the spans make it now.
func (p *plain) note() {
	p.stamp++
	var row ledger.Row
	for _, first := range p.first {
		if first >= 0 {
			row[p.entry[first].Version]++
		}
	}
	p.states = append(p.states, row)
}

func (p *plain) now() ledger.Row { return p.states[len(p.states)-1] }

func (p *plain) peak() int {
	peak := 0
	for _, row := range p.states {
		peak = max(peak, row[0]+row[1]+row[2])
	}
	return peak
}

func (p *plain) times(row ledger.Row) int {
	count := 0
	for _, state := range p.states {
		if state == row {
			count++
		}
	}
	return count
}

// at: the entry of an address's page, by going through all pages.
func (p *plain) at(address int) (radix.Entry, bool) {
	for page, first := range p.first {
		if 256*page <= address && address <= 256*page+255 && first >= 0 {
			return p.entry[first], true
		}
	}
	return radix.Entry{}, false
}

func (p *plain) spans(version int) []int {
	var list []int
	for page, e := range p.entry {
		if e.Version == version {
			list = append(list, page)
		}
	}
	slices.Sort(list)
	return list
}

const (
	ofOpen = iota
	ofClose
	ofMark
)

// call is one that may change a ground.
type call struct {
	what, page, n, align, version, class, state int
}

func open(n, align, version, class int) call {
	return call{what: ofOpen, n: n, align: align, version: version, class: class}
}

func closed(page int) call { return call{what: ofClose, page: page} }

func mark(page, version, class, state int) call {
	return call{what: ofMark, page: page, version: version, class: class, state: state}
}

// on: what a ground answers to the call.
func (c call) on(g *Ground) (int, api.Errno) {
	switch c.what {
	case ofOpen:
		return g.Open(c.n, c.align, c.version, c.class)
	case ofClose:
		return g.Close(c.page)
	default:
		return 0, g.Mark(c.page, c.version, c.class, c.state)
	}
}

// told: what the chapter asks of the call.
func (c call) told(p *plain) (int, api.Errno) {
	switch c.what {
	case ofOpen:
		return c.opened(p)
	case ofClose:
		return c.closedOn(p)
	default:
		return 0, c.marked(p)
	}
}

func between(number, greatest int) bool { return 0 <= number && number <= greatest }

func (c call) opened(p *plain) (int, api.Errno) {
	if !between(c.version, 2) || !between(c.class, 63) {
		return -1, api.ErrRange
	}
	page, errno := p.place(c.n, c.align)
	if errno != api.OK {
		return -1, errno
	}
	for k := page; k < page+c.n; k++ {
		p.first[k] = page
	}
	p.entry[page] = radix.Entry{Span: page, Version: c.version, Class: c.class, State: 0}
	p.note()
	return page, api.OK
}

func (c call) closedOn(p *plain) (int, api.Errno) {
	n := p.length(c.page)
	if n == 0 {
		return 0, api.ErrPointer
	}
	for k := range n {
		p.first[c.page+k] = -1
	}
	delete(p.entry, c.page)
	p.note()
	return n, api.OK
}

func (c call) marked(p *plain) api.Errno {
	if p.length(c.page) == 0 {
		return api.ErrPointer
	}
	if !between(c.version, 2) || !between(c.class, 63) || !between(c.state, 1) {
		return api.ErrRange
	}
	p.entry[c.page] = radix.Entry{Span: c.page, Version: c.version, Class: c.class, State: c.state}
	p.note()
	return api.OK
}

// text: the call's name, for a failure.
func (c call) text() string { return [...]string{"Open", "Close", "Mark"}[c.what] }

// apply: calls answer as the chapter asks.
func apply(t *testing.T, g *Ground, p *plain, calls ...call) {
	t.Helper()
	for _, c := range calls {
		before := p.runs()
		want, wantE := c.told(p)
		if got, errno := c.on(g); got != want || errno != wantE {
			t.Fatalf("%s %+v: %d, %v, not %d, %v; %v", c.text(), c, got, errno, want, wantE, before)
		}
	}
}

func made(t *testing.T, pages int) *Ground {
	t.Helper()
	g, errno := New(pages)
	if g == nil || errno != api.OK {
		t.Fatalf("New(%d): %v", pages, errno)
	}
	return g
}

// after: a ground behind these calls, none of which is an error, and with bytes in its memory that aren't noughts.
func after(t *testing.T, pages int, calls ...call) (*Ground, *plain) {
	t.Helper()
	g, p := made(t, pages), newPlain(pages)
	for at := range p.bytes {
		p.bytes[at] = byte(at*7 + at/256 + 1)
	}
	if errno := g.Cells().Write(0, p.bytes); errno != api.OK {
		t.Fatalf("Write: %v", errno)
	}
	for _, c := range calls {
		if _, errno := c.on(g); errno != api.OK {
			t.Fatalf("%s %+v: %v", c.text(), c, errno)
		}
		c.told(p)
	}
	same(t, g, p)
	return g, p
}

// same: every call that tells something tells what the chapter asks.
func same(t *testing.T, g *Ground, p *plain) {
	t.Helper()
	sameAmounts(t, g, p)
	for page := -1; page <= len(p.first); page++ {
		samePage(t, g, p, page)
	}
	for _, row := range p.states {
		sameTimes(t, g, p, row)
	}
	sameCan(t, g, p)
	sameBytes(t, g, p)
}

// sameAmounts: as same, but of what is told of the ground as a whole.
func sameAmounts(t *testing.T, g *Ground, p *plain) {
	t.Helper()
	row := p.now()
	for version, want := range map[int]int{-1: 0, 0: row[0], 1: row[1], 2: row[2], 3: 0, 7: 0, 8: 0} {
		if got := g.Held(version); got != want {
			t.Fatalf("Held(%d): %d, not %d", version, got, want)
		}
		if got := g.Spans(version); !slices.Equal(got, p.spans(version)) {
			t.Fatalf("Spans(%d): %v, not %v", version, got, p.spans(version))
		}
	}
	if got := g.Pages(); got != len(p.first) {
		t.Fatalf("Pages: %d, not %d", got, len(p.first))
	}
	if got, want := g.Free(), len(p.first)-row[0]-row[1]-row[2]; got != want {
		t.Fatalf("Free: %d, not %d", got, want)
	}
	// The book's capacity is no call's answer, but what is left of it must be the free pages.
	if got := g.book.Left(); got != g.Free() {
		t.Fatalf("left in the book: %d, not %d", got, g.Free())
	}
	if got := g.Peak(); got != p.peak() {
		t.Fatalf("Peak: %d, not %d", got, p.peak())
	}
	if got := g.Stamp(); got != p.stamp {
		t.Fatalf("Stamp: %d, not %d", got, p.stamp)
	}
	for kind := range 8 {
		sameTimes(t, g, p, row)
		row[kind]++
	}
}

func sameTimes(t *testing.T, g *Ground, p *plain, row ledger.Row) {
	t.Helper()
	if got, want := g.Times(row), p.times(row); got != want {
		t.Fatalf("Times(%v): %d, not %d, of %v", row, got, want, p.states)
	}
}

func samePage(t *testing.T, g *Ground, p *plain, page int) {
	t.Helper()
	if got, want := g.Len(page), p.length(page); got != want {
		t.Fatalf("Len(%d): %d, not %d; %v", page, got, want, p.runs())
	}
	for _, address := range []int{256 * page, 256*page + 1, 256*page + 100, 256*page + 255} {
		sameAt(t, g, p, address)
	}
}

func sameAt(t *testing.T, g *Ground, p *plain, address int) {
	t.Helper()
	want, there := p.at(address)
	if got, ok := g.At(address); got != want || ok != there {
		t.Fatalf("At(%d): %v, %v, not %v, %v", address, got, ok, want, there)
	}
}

func sameCan(t *testing.T, g *Ground, p *plain) {
	t.Helper()
	for _, n := range []int{-1, 0, 1, 2, 3, 4, g.Free(), g.Free() + 1} {
		for _, align := range []int{0, 1, 2, 3, 4, 16} {
			_, errno := p.place(n, align)
			if got := g.Can(n, align); got != (errno == api.OK) {
				t.Fatalf("Can(%d, %d): %v; %v", n, align, got, p.runs())
			}
		}
	}
}

func sameBytes(t *testing.T, g *Ground, p *plain) {
	t.Helper()
	got, errno := g.Cells().Read(0, len(p.bytes))
	if errno != api.OK || !bytes.Equal(got, p.bytes) || g.Cells().Len() != len(p.bytes) {
		t.Fatalf("the memory isn't what it was; %d bytes, %v", g.Cells().Len(), errno)
	}
}

// step: a call with what it answers, and some of what is told behind it, as it is written out.
type step struct {
	call  call
	want  int
	errno api.Errno
	held  [3]int
	stamp uint64
}

// wantSteps: each step answers what is written out, and leaves what the chapter asks.
func wantSteps(t *testing.T, pages int, steps ...step) *Ground {
	t.Helper()
	g, p := after(t, pages)
	for k, x := range steps {
		x.call.told(p)
		if got, errno := x.call.on(g); got != x.want || errno != x.errno {
			t.Fatalf("step %d: %d, %v, not %d, %v", k, got, errno, x.want, x.errno)
		}
		if got := [3]int{g.Held(0), g.Held(1), g.Held(2)}; got != x.held {
			t.Fatalf("step %d: held %v, not %v", k, got, x.held)
		}
		if got := g.Stamp(); got != x.stamp {
			t.Fatalf("step %d: stamp %d, not %d", k, got, x.stamp)
		}
		same(t, g, p)
	}
	return g
}

// wantAt: the address has this entry.
func wantAt(t *testing.T, g *Ground, address int, want radix.Entry) {
	t.Helper()
	if got, ok := g.At(address); got != want || !ok {
		t.Errorf("At(%d): %v, %v, not %v", address, got, ok, want)
	}
}

// wantNothingAt: the addresses have none.
func wantNothingAt(t *testing.T, g *Ground, addresses ...int) {
	t.Helper()
	for _, address := range addresses {
		if got, ok := g.At(address); got != (radix.Entry{}) || ok {
			t.Errorf("At(%d): %v, %v", address, got, ok)
		}
	}
}

// wantTimes: so many states had these amounts of the three versions.
func wantTimes(t *testing.T, g *Ground, a, b, c, want int) {
	t.Helper()
	if got := g.Times(ledger.Row{a, b, c}); got != want {
		t.Errorf("Times(%d, %d, %d): %d, not %d", a, b, c, got, want)
	}
}

// hostileInts: numbers at which a page, a count, an address or a bound may go wrong among so many pages.
func hostileInts(pages int) []int {
	list := []int{math.MinInt, math.MinInt + 1, math.MaxInt - 1, math.MaxInt, 3, 5, 6, 7, 24, 1000, 0x5555555555555555}
	for k := range 63 {
		list = append(list, 1<<k, -1<<k, 1<<k-1)
	}
	for d := -2; d <= 2; d++ {
		list = append(list, d, 63+d, pages+d, -pages+d, 256*pages+d, -256*pages+d, most+d, 256*most+d, 1<<32+d, 1<<32+63+d, 1<<32+256*pages+d, 1<<40+d)
		list = append(list, math.MaxInt-pages+d-2, math.MaxInt-most+d, math.MinInt+pages+d+2, math.MinInt+most+d)
	}
	return list
}

// mixed: 16 pages with a span of each version, free pages between them and behind them: the spans 0 to 2 (VLarge), 4 to 7 (VOld, class 5), 8 to 11 (VNew, class 63).
func mixed() []call {
	return []call{open(3, 1, 2, 0), open(4, 4, 0, 5), open(4, 4, 1, 63)}
}

// P12: the constants, as the chapter tells them.
func TestConstants(t *testing.T) {
	if VLarge != 2 || SOpen != 0 || SSealed != 1 {
		t.Error(VLarge, SOpen, SSealed)
	}
}

// P12.1: New's bounds; there are no spans at first, and the memory is all noughts.
func TestNew(t *testing.T) {
	for _, pages := range []int{0, 1, 2, 16, 64, 65, 4095, 4096} {
		g, p := made(t, pages), newPlain(pages)
		same(t, g, p)
		if g.Free() != pages || g.Peak() != 0 || g.Stamp() != 0 || g.Pages() != pages {
			t.Errorf("New(%d): %d free, peak %d, stamp %d, %d pages", pages, g.Free(), g.Peak(), g.Stamp(), g.Pages())
		}
		wantTimes(t, g, 0, 0, 0, 1)
		if pages > 0 {
			apply(t, g, p, open(pages, 1, 0, 1))
		}
		apply(t, g, p, open(1, 1, 0, 1))
		same(t, g, p)
	}
}

// P12.1, P1: New of numbers out of bounds, and of any numbers.
func TestNewOutOfBounds(t *testing.T) {
	for _, pages := range append(hostileInts(most), -1, 4097, -4096) {
		g, errno := New(pages)
		fits := 0 <= pages && pages <= 4096
		if fits && (g == nil || errno != api.OK) || !fits && (g != nil || errno != api.ErrRange) {
			t.Errorf("New(%d): %v, %v", pages, g, errno)
		}
	}
}

// P12.1: each New has pages, a map, a book and a memory of its own.
func TestNewApart(t *testing.T) {
	a, b := made(t, 8), made(t, 8)
	a.Open(3, 1, 1, 1)
	a.Cells().Fill(0, 2048, 1)
	same(t, b, newPlain(8))
}

// P12.1 to P12.3: the chapter's example.
func TestExample(t *testing.T) {
	g := wantSteps(t, 16,
		step{open(3, 1, VLarge, 0), 0, api.OK, [3]int{0, 0, 3}, 1},
		step{open(4, 4, 0, 5), 4, api.OK, [3]int{4, 0, 3}, 2},
	)
	wantAt(t, g, 1100, radix.Entry{Span: 4, Version: 0, Class: 5, State: 0})
	if g.Held(0) != 4 || g.Free() != 9 {
		t.Errorf("Held(VOld): %d, Free: %d", g.Held(0), g.Free())
	}
}

// P12.1: Open with each version and class: all pages of the span have the entry, which is open, and the book has them.
func TestOpenOfEachVersionAndClass(t *testing.T) {
	for version := range 3 {
		for class := range 64 {
			g, p := after(t, 7, open(2, 1, 2-version, 63-class))
			apply(t, g, p, open(3, 4, version, class))
			for _, address := range []int{1024, 1279, 1280, 1535, 1536, 1791} {
				wantAt(t, g, address, radix.Entry{Span: 4, Version: version, Class: class, State: 0})
			}
			wantNothingAt(t, g, 512, 1023, 1792)
			var row ledger.Row
			row[2-version] += 2
			row[version] += 3
			if g.Times(row) != 1 || g.Stamp() != 2 || g.Free() != 2 || g.Peak() != 5 {
				t.Errorf("Open(3, 4, %d, %d): %d times, stamp %d, %d free, peak %d", version, class, g.Times(row), g.Stamp(), g.Free(), g.Peak())
			}
			same(t, g, p)
		}
	}
}

// P12.1: a version, or a class, that is none is ErrRange, and nothing changes.
func TestOpenOutOfBounds(t *testing.T) {
	for _, calls := range [][]call{nil, mixed(), {open(16, 1, 1, 1)}} {
		g, p := after(t, 16, calls...)
		for _, c := range []call{
			open(1, 1, -1, 0), open(1, 1, 3, 0), open(1, 1, 0, -1), open(1, 1, 0, 64), open(1, 1, 3, 64), open(1, 1, -1, -1),
			open(4, 4, 2, 64), open(4, 4, 2, -1), open(4, 4, 3, 63), open(4, 4, 7, 0), open(4, 4, 8, 0), open(4, 4, math.MinInt, 0), open(4, 4, 0, math.MaxInt),
		} {
			if page, errno := c.on(g); page != -1 || errno != api.ErrRange {
				t.Errorf("%+v: %d, %v", c, page, errno)
			}
		}
		same(t, g, p)
	}
}

// P12.1: numbers of pages, and alignments, that layer 8 refuses have its error, and nothing changes.
func TestOpenAsLayer8Refuses(t *testing.T) {
	g, p := after(t, 16, mixed()...)
	beside, _ := spans.New(16)
	for _, x := range [][2]int{{3, 1}, {4, 4}, {4, 4}} {
		beside.TakeAligned(x[0], x[1])
	}
	for _, n := range []int{0, -1, math.MinInt, 1, 2, 4, 5, 6, 16, 17, 4096, math.MaxInt} {
		for _, align := range []int{0, -1, 1, 2, 3, 4, 8, 12, 4095, 4096, 4097, 8192, math.MinInt, math.MaxInt, 1 << 62} {
			if beside.Can(n, align) {
				continue
			}
			want, wantE := beside.TakeAligned(n, align)
			if page, errno := g.Open(n, align, 1, 7); page != want || page != -1 || errno != wantE || errno == api.OK {
				t.Errorf("Open(%d, %d): %d, %v, not %d, %v", n, align, page, errno, want, wantE)
			}
		}
	}
	same(t, g, p)
}

// P12.1: ErrMemory where no run is free, none is long enough, none long enough from a multiple on; and on no pages at all.
func TestOpenWithoutRoom(t *testing.T) {
	for _, x := range []struct {
		pages    int
		calls    []call
		n, align int
	}{
		{0, nil, 1, 1},
		{1, nil, 2, 1},
		{1, []call{open(1, 1, 0, 0)}, 1, 1},
		{16, nil, 17, 1},
		{16, mixed(), 5, 1},
		{16, mixed(), 4, 8},
		{16, mixed(), 1, 16},
		{16, []call{open(1, 1, 0, 0)}, 1, 16},
		{4096, nil, 4097, 1},
		{4096, []call{open(1, 1, 0, 0)}, 4096, 1},
		{4096, []call{open(1, 1, 0, 0)}, 1, 4096},
	} {
		g, p := after(t, x.pages, x.calls...)
		if page, errno := g.Open(x.n, x.align, 2, 0); page != -1 || errno != api.ErrMemory {
			t.Errorf("Open(%d, %d) of %d: %d, %v", x.n, x.align, x.pages, page, errno)
		}
		same(t, g, p)
	}
}

// P12.1: where several errors hold, that of the version and the class comes first, then those of layer 8.
func TestOpenOrderOfErrors(t *testing.T) {
	g, p := after(t, 16, mixed()...)
	for _, x := range []struct {
		c     call
		errno api.Errno
	}{
		{open(17, 1, 3, 0), api.ErrRange},
		{open(17, 1, -1, 0), api.ErrRange},
		{open(17, 1, 0, 64), api.ErrRange},
		{open(17, 1, 0, -1), api.ErrRange},
		{open(17, 3, 0, 0), api.ErrRange},
		{open(17, 0, 0, 0), api.ErrRange},
		{open(0, 1, 3, 64), api.ErrRange},
		{open(17, 1, 0, 0), api.ErrMemory},
		{open(17, 4096, 2, 63), api.ErrMemory},
	} {
		if page, errno := x.c.on(g); page != -1 || errno != x.errno {
			t.Errorf("%+v: %d, %v, not %v", x.c, page, errno, x.errno)
		}
	}
	same(t, g, p)
}

// P12.1: where several runs fit, the shortest one is taken, of several the first, from the least multiple on.
func TestOpenWhereSeveralFit(t *testing.T) {
	laid := []call{open(5, 1, 0, 0), open(1, 1, 1, 1), open(3, 1, 0, 0), open(1, 1, 1, 1), open(3, 1, 0, 0), open(1, 1, 1, 1), open(4, 1, 0, 0), open(1, 1, 1, 1), closed(0), closed(6), closed(10), closed(14)}
	// Free are the pages 0 to 4, 6 to 8, 10 to 12, and 14 to 17.
	for _, x := range []struct{ n, align, page int }{
		{1, 1, 6}, {2, 1, 6}, {3, 1, 6}, {4, 1, 14}, {5, 1, 0},
		{1, 2, 6}, {1, 4, 8}, {2, 4, 16}, {1, 8, 8}, {1, 16, 16}, {3, 4, 0}, {4, 2, 14}, {3, 2, 6}, {2, 16, 16}, {3, 16, 0}, {1, 4096, 0},
	} {
		g, p := after(t, 19, laid...)
		if page, errno := g.Open(x.n, x.align, 2, 9); page != x.page || errno != api.OK {
			t.Errorf("Open(%d, %d): %d, %v, not %d", x.n, x.align, page, errno, x.page)
		}
		open(x.n, x.align, 2, 9).told(p)
		same(t, g, p)
	}
}

// P12.1: spans side by side, of one version and one class too, are spans of their own.
func TestSpansSideBySide(t *testing.T) {
	g, p := after(t, 6, open(2, 1, 1, 4), open(2, 1, 1, 4), open(2, 1, 1, 4))
	if got := g.Spans(1); !slices.Equal(got, []int{0, 2, 4}) {
		t.Errorf("Spans(1): %v", got)
	}
	wantAt(t, g, 1023, radix.Entry{Span: 2, Version: 1, Class: 4})
	wantAt(t, g, 1024, radix.Entry{Span: 4, Version: 1, Class: 4})
	apply(t, g, p, mark(2, 0, 9, 1), closed(0))
	wantAt(t, g, 512, radix.Entry{Span: 2, Version: 0, Class: 9, State: 1})
	wantAt(t, g, 1024, radix.Entry{Span: 4, Version: 1, Class: 4})
	same(t, g, p)
}

// P12.2: Close of a span's first page: how many it had; its pages are free, have no entry and are released in the book.
func TestClose(t *testing.T) {
	g := wantSteps(t, 16,
		step{open(3, 1, 2, 0), 0, api.OK, [3]int{0, 0, 3}, 1},
		step{open(4, 4, 0, 5), 4, api.OK, [3]int{4, 0, 3}, 2},
		step{open(4, 4, 1, 63), 8, api.OK, [3]int{4, 4, 3}, 3},
		step{closed(4), 4, api.OK, [3]int{0, 4, 3}, 4},
		step{closed(0), 3, api.OK, [3]int{0, 4, 0}, 5},
		step{closed(8), 4, api.OK, [3]int{0, 0, 0}, 6},
	)
	wantNothingAt(t, g, 0, 255, 767, 1024, 1100, 2047, 2048, 3071)
	if g.Free() != 16 || !g.Can(16, 1) || g.Peak() != 11 {
		t.Errorf("%d free, Can(16, 1) %v, peak %d", g.Free(), g.Can(16, 1), g.Peak())
	}
	wantTimes(t, g, 0, 4, 3, 1)
	wantTimes(t, g, 0, 4, 0, 1)
	wantTimes(t, g, 0, 0, 0, 2)
	wantTimes(t, g, 0, 0, 3, 1)
}

// P12.2: Close of a page in a span's middle, of its last one, of a free page, of one that is none, and twice.
func TestCloseWhereNoneBegins(t *testing.T) {
	g, p := after(t, 16, mixed()...)
	for _, page := range []int{1, 2, 5, 6, 7, 9, 10, 11, 3, 12, 15, -1, -4, 16, 17, 256, 1024, 4095, 4096, math.MinInt, math.MaxInt} {
		if n, errno := g.Close(page); n != 0 || errno != api.ErrPointer {
			t.Errorf("Close(%d): %d, %v", page, n, errno)
		}
	}
	same(t, g, p)
	for _, page := range []int{4, 8, 0} {
		apply(t, g, p, closed(page))
		if n, errno := g.Close(page); n != 0 || errno != api.ErrPointer {
			t.Errorf("Close(%d) twice: %d, %v", page, n, errno)
		}
		same(t, g, p)
	}
	empty, none := after(t, 0)
	apply(t, empty, none, closed(0), mark(0, 0, 0, 0))
	same(t, empty, none)
}

// P12.2: what was closed may be opened again, of another version and class, and in one piece with its free neighbours.
func TestOpenBehindClose(t *testing.T) {
	g, p := after(t, 8, open(2, 1, 0, 1), open(2, 1, 1, 2), open(2, 1, 2, 3), open(2, 1, 0, 4))
	apply(t, g, p, mark(2, 2, 5, 1), closed(0), closed(4), closed(2))
	if page, errno := g.Open(6, 2, 1, 63); page != 0 || errno != api.OK {
		t.Errorf("Open: %d, %v", page, errno)
	}
	open(6, 2, 1, 63).told(p)
	wantAt(t, g, 512, radix.Entry{Span: 0, Version: 1, Class: 63, State: 0})
	same(t, g, p)
}

// P12.2: a span that was marked is released as of the version that it was marked with.
func TestCloseBehindMark(t *testing.T) {
	for from := range 3 {
		for to := range 3 {
			g, p := after(t, 9, open(4, 1, from, 1), open(2, 1, 0, 2), open(2, 1, 1, 3), open(1, 1, 2, 4))
			apply(t, g, p, mark(0, to, 7, 1), closed(0))
			if got := [3]int{g.Held(0), g.Held(1), g.Held(2)}; got != [3]int{2, 2, 1} {
				t.Errorf("from %d to %d: held %v", from, to, got)
			}
			same(t, g, p)
		}
	}
}

// P12.2: Mark with each version, each state, and each class: all pages of the span, and no others, have the entry, by one call of layer 10; the book is shifted by one call of layer 9.
func TestMark(t *testing.T) {
	for from := range 3 {
		for to := range 3 {
			for state := range 2 {
				for _, class := range []int{0, 1, 31, 62, 63} {
					g, p := after(t, 16, open(2, 1, 1, 1), open(5, 1, from, 9), open(3, 1, 0, 2))
					before := g.Times(rowOf(g))
					apply(t, g, p, mark(2, to, class, state))
					for _, address := range []int{512, 767, 768, 1100, 1791} {
						wantAt(t, g, address, radix.Entry{Span: 2, Version: to, Class: class, State: state})
					}
					wantAt(t, g, 511, radix.Entry{Span: 0, Version: 1, Class: 1})
					wantAt(t, g, 1792, radix.Entry{Span: 7, Version: 0, Class: 2})
					if g.Stamp() != 4 {
						t.Errorf("stamp %d", g.Stamp())
					}
					want := 1
					if from == to {
						want = before + 1
					}
					if got := g.Times(rowOf(g)); got != want {
						t.Errorf("from %d to %d: %d times, not %d", from, to, got, want)
					}
					same(t, g, p)
				}
			}
		}
	}
}

// rowOf: what the book holds now, as Held tells it.
func rowOf(g *Ground) ledger.Row { return ledger.Row{g.Held(0), g.Held(1), g.Held(2)} }

// P12.2: Mark changes neither which pages are free, nor the peak, nor how long the span is; marked again with the same numbers it is one change, and one state, more.
func TestMarkAgain(t *testing.T) {
	g := wantSteps(t, 4,
		step{open(3, 1, 0, 5), 0, api.OK, [3]int{3, 0, 0}, 1},
		step{mark(0, 0, 5, 0), 0, api.OK, [3]int{3, 0, 0}, 2},
		step{mark(0, 0, 5, 0), 0, api.OK, [3]int{3, 0, 0}, 3},
		step{mark(0, 0, 5, 1), 0, api.OK, [3]int{3, 0, 0}, 4},
		step{mark(0, 1, 5, 1), 0, api.OK, [3]int{0, 3, 0}, 5},
		step{mark(0, 0, 5, 1), 0, api.OK, [3]int{3, 0, 0}, 6},
		step{mark(0, 2, 0, 0), 0, api.OK, [3]int{0, 0, 3}, 7},
	)
	wantTimes(t, g, 3, 0, 0, 5)
	wantTimes(t, g, 0, 3, 0, 1)
	wantTimes(t, g, 0, 0, 3, 1)
	// No state in between: neither less nor more than the span's pages was ever reserved behind its opening.
	wantTimes(t, g, 0, 0, 0, 1)
	if g.Peak() != 3 || g.Free() != 1 || g.Len(0) != 3 {
		t.Errorf("peak %d, %d free, Len(0) %d", g.Peak(), g.Free(), g.Len(0))
	}
}

// P12.2: versions, classes and states one below and one above each bound are ErrRange, and nothing changes.
func TestMarkOutOfBounds(t *testing.T) {
	g, p := after(t, 16, mixed()...)
	for _, page := range []int{0, 4, 8} {
		for _, c := range []call{
			mark(page, -1, 0, 0), mark(page, 3, 0, 0), mark(page, 0, -1, 0), mark(page, 0, 64, 0), mark(page, 0, 0, -1), mark(page, 0, 0, 2),
			mark(page, 3, 63, 1), mark(page, 2, 64, 1), mark(page, 2, 63, 2), mark(page, -1, -1, -1), mark(page, 3, 64, 2), mark(page, 0, 0, 7), mark(page, 0, 0, 8),
			mark(page, math.MinInt, 0, 0), mark(page, 0, math.MaxInt, 0), mark(page, 0, 0, math.MinInt), mark(page, 1<<32, 0, 0), mark(page, 0, 1<<32, 0), mark(page, 0, 0, 1<<32),
		} {
			if errno := g.Mark(c.page, c.version, c.class, c.state); errno != api.ErrRange {
				t.Errorf("%+v: %v", c, errno)
			}
		}
	}
	same(t, g, p)
}

// P12.2: Mark of a page at which no span begins is ErrPointer, whatever the other numbers are.
func TestMarkWhereNoneBegins(t *testing.T) {
	g, p := after(t, 16, mixed()...)
	for _, page := range []int{1, 2, 3, 5, 7, 9, 11, 12, 15, 16, -1, 256, 1024, 4096, math.MinInt, math.MaxInt} {
		for _, c := range []call{mark(page, 1, 4, 1), mark(page, 3, 0, 0), mark(page, 0, 64, 0), mark(page, 0, 0, 2), mark(page, -1, -1, -1)} {
			if errno := g.Mark(c.page, c.version, c.class, c.state); errno != api.ErrPointer {
				t.Errorf("%+v: %v", c, errno)
			}
		}
	}
	same(t, g, p)
	apply(t, g, p, closed(4))
	if errno := g.Mark(4, 0, 0, 0); errno != api.ErrPointer {
		t.Errorf("Mark behind Close: %v", errno)
	}
	same(t, g, p)
}

// P12.3: At of the first and the last address of a span and of a page, of an address in no span, below 0, and beyond the last.
func TestAt(t *testing.T) {
	g, _ := after(t, 16, mixed()...)
	large, old, young := radix.Entry{Version: 2}, radix.Entry{Span: 4, Class: 5}, radix.Entry{Span: 8, Version: 1, Class: 63}
	for address, want := range map[int]radix.Entry{
		0: large, 255: large, 256: large, 511: large, 512: large, 767: large,
		1024: old, 1279: old, 1280: old, 2047: old,
		2048: young, 2303: young, 2304: young, 3071: young,
	} {
		wantAt(t, g, address, want)
	}
	wantNothingAt(t, g, 768, 1023, 3072, 4095, 4096, 4097, -1, -2, -255, -256, -257, -4096, math.MinInt, math.MinInt+1, math.MaxInt, 1<<32, 1<<32+1024, 1<<40+1100, 1<<56+1024)
	whole, _ := after(t, 4096, open(4096, 4096, 1, 1))
	wantAt(t, whole, 0, radix.Entry{Version: 1, Class: 1})
	wantAt(t, whole, 1048575, radix.Entry{Version: 1, Class: 1})
	wantNothingAt(t, whole, -1, -255, 1048576)
}

// P12.3: Len of a span's first page, of another one, and of none.
func TestLen(t *testing.T) {
	g, _ := after(t, 16, mixed()...)
	for page, want := range map[int]int{
		0: 3, 4: 4, 8: 4, 1: 0, 2: 0, 3: 0, 5: 0, 7: 0, 9: 0, 11: 0, 12: 0, 15: 0, 16: 0, -1: 0, 4096: 0, math.MinInt: 0, math.MaxInt: 0,
	} {
		if got := g.Len(page); got != want {
			t.Errorf("Len(%d): %d, not %d", page, got, want)
		}
	}
	whole, _ := after(t, 4096, open(4096, 1, 1, 1))
	if whole.Len(0) != 4096 || whole.Len(4095) != 0 {
		t.Errorf("Len(0): %d", whole.Len(0))
	}
}

// P12.3: Held and Spans of each version, of which there are no spans, one and several, and of none.
func TestHeldAndSpans(t *testing.T) {
	g, p := after(t, 16)
	for _, x := range []struct {
		c     call
		held  [3]int
		spans [3][]int
	}{
		{open(2, 8, 1, 3), [3]int{0, 2, 0}, [3][]int{nil, {0}, nil}},
		{open(2, 8, 1, 3), [3]int{0, 4, 0}, [3][]int{nil, {0, 8}, nil}},
		{open(2, 4, 2, 3), [3]int{0, 4, 2}, [3][]int{nil, {0, 8}, {4}}},
		{open(1, 1, 0, 3), [3]int{1, 4, 2}, [3][]int{{2}, {0, 8}, {4}}},
		{mark(4, 0, 3, 1), [3]int{3, 4, 0}, [3][]int{{2, 4}, {0, 8}, nil}},
		{mark(0, 0, 3, 1), [3]int{5, 2, 0}, [3][]int{{0, 2, 4}, {8}, nil}},
		{open(6, 1, 2, 0), [3]int{5, 2, 6}, [3][]int{{0, 2, 4}, {8}, {10}}},
		{closed(2), [3]int{4, 2, 6}, [3][]int{{0, 4}, {8}, {10}}},
		{closed(8), [3]int{4, 0, 6}, [3][]int{{0, 4}, nil, {10}}},
		{open(1, 1, 1, 0), [3]int{4, 1, 6}, [3][]int{{0, 4}, {2}, {10}}},
	} {
		apply(t, g, p, x.c)
		for version := range 3 {
			if g.Held(version) != x.held[version] || !slices.Equal(g.Spans(version), x.spans[version]) {
				t.Errorf("behind %+v: Held(%d) %d, Spans %v", x.c, version, g.Held(version), g.Spans(version))
			}
		}
		for _, version := range []int{-1, 3, 7, 8, math.MinInt, math.MaxInt} {
			if g.Held(version) != 0 || len(g.Spans(version)) != 0 {
				t.Errorf("Held(%d): %d, Spans %v", version, g.Held(version), g.Spans(version))
			}
		}
		same(t, g, p)
	}
}

// P12.3: what Spans answers is new memory: neither the ground nor another answer has any of it.
func TestSpansIsNewMemory(t *testing.T) {
	g, p := after(t, 16, open(2, 1, 1, 1), open(2, 1, 1, 1), open(2, 1, 1, 1))
	a, b := g.Spans(1), g.Spans(1)
	a = a[:cap(a)]
	for k := range a {
		a[k] = 77
	}
	if !slices.Equal(b, []int{0, 2, 4}) {
		t.Errorf("the other answer is %v", b)
	}
	same(t, g, p)
}

// P12.3: Free, and Can as layer 8's, at each number of pages and each alignment.
func TestFreeAndCan(t *testing.T) {
	g, p := after(t, 16, mixed()...)
	if g.Free() != 5 {
		t.Errorf("Free: %d", g.Free())
	}
	for _, x := range []struct {
		n, align int
		want     bool
	}{
		{1, 1, true}, {4, 1, true}, {5, 1, false}, {4, 4, true}, {1, 4, true}, {1, 8, false}, {1, 16, false}, {2, 2, true}, {3, 4, true}, {16, 1, false}, {17, 1, false},
		{0, 1, false}, {-1, 1, false}, {1, 0, false}, {1, -1, false}, {1, 3, false}, {1, 8192, false}, {math.MinInt, 1, false}, {math.MaxInt, 1, false}, {1, math.MinInt, false}, {1, math.MaxInt, false},
	} {
		if got := g.Can(x.n, x.align); got != x.want {
			t.Errorf("Can(%d, %d): %v", x.n, x.align, got)
		}
	}
	same(t, g, p)
}

// P12.3: Peak stays where spans are closed or marked, and rises only where more pages are in spans than ever.
func TestPeak(t *testing.T) {
	g, p := after(t, 16)
	for _, x := range []struct {
		c    call
		peak int
	}{
		{open(4, 1, 0, 0), 4}, {open(4, 1, 1, 0), 8}, {closed(0), 8}, {open(2, 1, 2, 0), 8}, {mark(4, 2, 0, 1), 8}, {open(2, 1, 0, 0), 8}, {open(3, 1, 1, 0), 11},
		{closed(4), 11}, {closed(0), 11}, {closed(2), 11}, {closed(8), 11}, {open(11, 1, 0, 0), 11}, {open(17, 1, 0, 0), 11}, {closed(0), 11}, {open(16, 1, 0, 0), 16}, {closed(0), 16},
	} {
		apply(t, g, p, x.c)
		if g.Peak() != x.peak {
			t.Errorf("behind %+v: Peak %d, not %d", x.c, g.Peak(), x.peak)
		}
		same(t, g, p)
	}
}

// P12.3: Times of rows that the book had never, once and several times.
func TestTimes(t *testing.T) {
	g, p := after(t, 8, open(4, 1, 0, 1), closed(0), open(4, 1, 0, 2), mark(0, 0, 3, 1), mark(0, 1, 3, 0), open(2, 1, 2, 0))
	for _, x := range []struct {
		row  ledger.Row
		want int
	}{
		{ledger.Row{}, 2}, {ledger.Row{4}, 3}, {ledger.Row{0, 4}, 1}, {ledger.Row{0, 4, 2}, 1},
		{ledger.Row{4, 4}, 0}, {ledger.Row{0, 0, 2}, 0}, {ledger.Row{2}, 0}, {ledger.Row{0, 0, 0, 4}, 0}, {ledger.Row{4, 0, 0, 0, 0, 0, 0, 1}, 0}, {ledger.Row{-4}, 0}, {ledger.Row{math.MinInt, math.MaxInt}, 0},
	} {
		if got := g.Times(x.row); got != x.want {
			t.Errorf("Times(%v): %d, not %d", x.row, got, x.want)
		}
	}
	// Calls with an error, and those that only tell, are no states.
	g.Open(9, 1, 0, 0)
	g.Close(1)
	g.Mark(0, 3, 0, 0)
	g.Clone()
	wantTimes(t, g, 0, 4, 2, 1)
	same(t, g, p)
}

// P12.3: Stamp goes up by one with each call that changes something, however many pages it is about, and with no other.
func TestStamp(t *testing.T) {
	g, p := after(t, 200, open(130, 1, 0, 0), open(1, 1, 0, 0), mark(0, 2, 3, 1), closed(130), mark(0, 2, 3, 1), closed(0))
	if g.Stamp() != 6 {
		t.Errorf("Stamp: %d", g.Stamp())
	}
	apply(t, g, p, closed(0), open(0, 1, 0, 0), open(201, 1, 0, 0), mark(0, 0, 0, 0), open(1, 1, 3, 0))
	g.At(0)
	g.Spans(0)
	g.Can(1, 1)
	if g.Stamp() != 6 {
		t.Errorf("Stamp: %d", g.Stamp())
	}
	same(t, g, p)
}

// P12.3: Cells is the memory itself: what is written into it is there at the next call, and no call changes a byte of it.
func TestCells(t *testing.T) {
	g := made(t, 4)
	memory := g.Cells()
	if memory.Len() != 1024 || memory.Fill(1000, 24, 9) != api.OK {
		t.Fatalf("%d bytes", memory.Len())
	}
	if v, errno := g.Cells().Load(1016, 8); v != 0x0909090909090909 || errno != api.OK {
		t.Errorf("Load: %#x, %v", v, errno)
	}
	if g.Cells() != memory {
		t.Errorf("another memory")
	}
	for _, c := range []call{open(4, 1, 1, 1), mark(0, 2, 0, 1), closed(0), open(2, 2, 0, 63), open(9, 1, 0, 0), closed(1), mark(3, 0, 0, 0)} {
		c.on(g)
		if g.Cells() != memory {
			t.Errorf("another memory behind %+v", c)
		}
	}
	want := append(make([]byte, 1000), slices.Repeat([]byte{9}, 24)...)
	if got, _ := memory.Read(0, 1024); !bytes.Equal(got, want) {
		t.Errorf("bytes have changed")
	}
}

// P12.3: Clone: a change of either side, of its memory too, doesn't change the other one.
func TestClone(t *testing.T) {
	changes := [][]call{
		{open(1, 1, 0, 0)}, {open(4, 4, 2, 63)}, {closed(0)}, {closed(4)}, {closed(8)}, {mark(0, 1, 7, 1)}, {mark(4, 0, 5, 1)}, {mark(8, 0, 0, 0), closed(8)}, {closed(4), open(6, 1, 1, 1), closed(0)}, {closed(0), closed(4), closed(8), open(16, 1, 2, 0)},
	}
	for _, calls := range changes {
		for side := range 2 {
			g, p := after(t, 16, append([]call{open(9, 1, 2, 2), closed(0)}, mixed()...)...)
			sides := [2]*Ground{g, g.Clone()}
			if sides[1].Cells() == g.Cells() {
				t.Fatalf("both have one memory")
			}
			same(t, sides[1], p)
			changed := p.clone()
			apply(t, sides[side], changed, calls...)
			sides[side].Cells().Fill(0, 4096, 3)
			changed.bytes = slices.Repeat([]byte{3}, 4096)
			same(t, sides[side], changed)
			same(t, sides[1-side], p)
			apply(t, sides[1-side], p, calls...)
			same(t, sides[1-side], p)
		}
	}
}

// P12.3: Clone of every layout of up to six pages: what is taken next is taken at the same place, on both sides.
func TestCloneOfEveryLayout(t *testing.T) {
	for pages := range 7 {
		for cuts := range 1 << max(0, pages-1) {
			for free := range 1 << pages {
				g, p := after(t, pages, layout(pages, cuts)...)
				for _, page := range g.Spans(1) {
					if free>>page&1 == 1 {
						apply(t, g, p, closed(page))
					}
				}
				clone, q := g.Clone(), p.clone()
				same(t, clone, q)
				for range pages {
					for n := 2; n > 0; n-- {
						apply(t, clone, q, open(n, n, 0, n))
					}
				}
				same(t, clone, q)
				same(t, g, p)
			}
		}
	}
}

// layout: the calls that open spans over all pages; one ends behind the page k where the bit k of cuts is set.
func layout(pages, cuts int) []call {
	var calls []call
	n := 0
	for page := range pages {
		n++
		if cuts>>page&1 == 1 || page == pages-1 {
			calls = append(calls, open(n, 1, 1, n))
			n = 0
		}
	}
	return calls
}

// P12.3: Clone of grounds without pages, and of the greatest one, where every other page is a span.
func TestCloneOfLeastAndGreatest(t *testing.T) {
	g, p := after(t, 0)
	same(t, g.Clone(), p)
	g, p = made(t, 4096), newPlain(4096)
	for page := range 4096 {
		if got, errno := g.Open(1, 1, page%3, page%64); got != page || errno != api.OK {
			t.Fatalf("Open: %d, %v", got, errno)
		}
	}
	for page := 1; page < 4096; page += 2 {
		if n, errno := g.Close(page); n != 1 || errno != api.OK {
			t.Fatalf("Close(%d): %d, %v", page, n, errno)
		}
	}
	clone := g.Clone()
	if clone.Free() != 2048 || clone.Stamp() != 6144 || clone.Peak() != 4096 || clone.Can(2, 1) || !clone.Can(1, 1) || clone.Can(1, 2) {
		t.Fatalf("%d free, stamp %d, peak %d", clone.Free(), clone.Stamp(), clone.Peak())
	}
	for version := range 3 {
		if !slices.Equal(clone.Spans(version), g.Spans(version)) || clone.Held(version) != g.Held(version) {
			t.Fatalf("Spans(%d) are others", version)
		}
	}
	for page := range 4096 {
		a, okA := g.At(256 * page)
		b, okB := clone.At(256*page + 255)
		if a != b || okA != okB || g.Len(page) != clone.Len(page) {
			t.Fatalf("page %d: %v, not %v", page, b, a)
		}
	}
	if len(cellsUnlike(g, clone)) != 0 {
		t.Fatalf("the memories are unlike")
	}
}

func cellsUnlike(a, b *Ground) []cells.Span { return a.Cells().Differ(b.Cells()) }

// walk goes through all rows of calls so long, each on clones of what is before it.
func walk(t *testing.T, g *Ground, p *plain, calls []call, depth int) {
	t.Helper()
	same(t, g, p)
	if depth == 0 {
		return
	}
	for _, c := range calls {
		next, q := g.Clone(), p.clone()
		apply(t, next, q, c)
		walk(t, next, q, calls, depth-1)
	}
	sameAmounts(t, g, p)
}

// P12.1 to P12.3: every row of up to three calls, of few pages.
func TestEveryRowOfCalls(t *testing.T) {
	for _, pages := range []int{0, 1, 2, 4} {
		calls := []call{open(1, 1, 0, 1), open(1, 2, 1, 64), open(2, 2, 1, 63), open(3, 1, 2, 0), open(1, 4, 3, 0), open(0, 1, 0, 0)}
		for page := -1; page <= pages; page++ {
			calls = append(calls, closed(page), mark(page, 2, 5, 1), mark(page, 0, 5, 0), mark(page, 1, 5, 2))
		}
		g, p := after(t, pages)
		walk(t, g, p, calls, 3)
	}
}

// picks: a row of numbers that is always the same and looks like none.
type picks uint64

func (k *picks) below(n int) int {
	*k = *k*6364136223846793005 + 1442695040888963407
	return int(uint64(*k)>>33) % n
}

// call: one about these pages, now and then one with a number beyond its bound.
func (k *picks) call(pages, longest int) call {
	page := k.below(pages+2) - 1
	version, class, state := k.below(3), k.below(64), k.below(2)
	switch k.below(30) {
	case 0:
		version = 3 - 4*k.below(2)
	case 1:
		class = 64 - 65*k.below(2)
	case 2:
		state = 2 - 3*k.below(2)
	}
	switch k.below(4) {
	case 0, 1:
		return open(k.below(longest+1), 1<<k.below(4), version, class)
	case 2:
		return closed(page)
	default:
		return mark(page, version, class, state)
	}
}

// P12.1 to P12.3: many calls one after another, on few and on many pages.
func TestManyChanges(t *testing.T) {
	for _, x := range []struct{ pages, longest, calls int }{{1, 1, 200}, {5, 3, 600}, {16, 5, 600}, {70, 9, 500}, {200, 20, 400}} {
		g, p := after(t, x.pages)
		k := picks(x.pages)
		for range x.calls {
			apply(t, g, p, k.call(x.pages, x.longest))
			sameAmounts(t, g, p)
			samePage(t, g, p, k.below(x.pages))
			if k.below(40) == 0 {
				// From here on with the clone, which must be as good.
				g = g.Clone()
				same(t, g, p)
			}
		}
		same(t, g, p)
	}
}

// P12.1 to P12.3, P1: every call at any numbers.
func TestAnyNumbers(t *testing.T) {
	for _, x := range []struct {
		pages int
		calls []call
	}{
		{0, nil}, {1, []call{open(1, 1, 0, 0)}}, {16, mixed()}, {130, []call{open(64, 64, 1, 1), open(66, 1, 2, 0)}},
	} {
		g, p := after(t, x.pages, x.calls...)
		for _, number := range hostileInts(x.pages) {
			sameAt(t, g, p, number)
			if got, want := g.Len(number), p.length(number); got != want {
				t.Errorf("Len(%d): %d, not %d", number, got, want)
			}
			if _, errno := p.place(number, 1); g.Can(number, 1) != (errno == api.OK) {
				t.Errorf("Can(%d, 1): %v", number, errno)
			}
			if _, errno := p.place(1, number); g.Can(1, number) != (errno == api.OK) {
				t.Errorf("Can(1, %d): %v", number, errno)
			}
			if !between(number, 2) && (g.Held(number) != 0 || len(g.Spans(number)) != 0) {
				t.Errorf("Held(%d): %d, Spans %v", number, g.Held(number), g.Spans(number))
			}
			for _, c := range []call{
				open(number, 1, 0, 0), open(1, number, 0, 0), open(1, 1, number, 0), open(1, 1, 0, number), open(number, number, number, number),
				closed(number), mark(number, 0, 0, 0), mark(0, number, 0, 0), mark(0, 0, number, 0), mark(0, 0, 0, number), mark(number, number, number, number),
			} {
				q := p.clone()
				if _, errno := c.told(q); errno != api.OK {
					// The ground itself is asked: nothing may change, which is held against the chapter at the end.
					apply(t, g, p, c)
					continue
				}
				one, q := g.Clone(), p.clone()
				apply(t, one, q, c)
				sameAmounts(t, one, q)
			}
		}
		same(t, g, p)
	}
}
