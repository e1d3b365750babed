package radix

import (
	"maps"
	"math"
	"testing"

	"underpin/api"
)

// held is what a page has: an entry, and the stamp of the call that wrote it.
type held struct {
	e     Entry
	stamp uint64
}

// plain: what a map is by the chapter: how many pages there are, the stamp, and what those pages have that have an entry.
type plain struct {
	pages int
	stamp uint64
	held  map[int]held
}

func newPlain(pages int) *plain { return &plain{pages, 0, map[int]held{}} }

func (p *plain) clone() *plain { return &plain{p.pages, p.stamp, maps.Clone(p.held)} }

func (p *plain) there(page, n int) bool {
	return n >= 1 && n <= p.pages && page >= 0 && page <= p.pages-n
}

func (p *plain) word(page int) uint64 {
	x, ok := p.held[page]
	if !ok {
		return 0
	}
	return uint64(1+2*x.e.State+16*x.e.Class+1024*x.e.Version+4096*x.e.Span) + 16777216*x.stamp
}

func (p *plain) leaves() int {
	kept := map[int]int{}
	for page := range p.held {
		kept[page/64]++
	}
	return len(kept)
}

func (p *plain) count(version, state int) int {
	count := 0
	for _, x := range p.held {
		if x.e.Version == version && x.e.State == state {
			count++
		}
	}
	return count
}

func between(number, greatest int) bool { return 0 <= number && number <= greatest }

// call is one that may change a map.
type call struct {
	set     bool
	page, n int
	e       Entry
}

func set(page, n int, e Entry) call { return call{true, page, n, e} }

func erase(page, n int) call { return call{page: page, n: n} }

// on: what a map answers to the call.
func (c call) on(m *Map) api.Errno {
	if c.set {
		return m.Set(c.page, c.n, c.e)
	}
	return m.Clear(c.page, c.n)
}

// told: what the chapter asks of the call.
func (c call) told(p *plain) api.Errno {
	if !p.there(c.page, c.n) {
		return api.ErrRange
	}
	if c.set && !(between(c.e.Span, 4095) && between(c.e.Version, 3) && between(c.e.Class, 63) && between(c.e.State, 7)) {
		return api.ErrRange
	}
	for page := c.page; page < c.page+c.n; page++ {
		if _, ok := p.held[page]; !c.set && !ok {
			return api.ErrNone
		}
	}
	p.stamp = (p.stamp + 1) % 1099511627776
	for page := c.page; page < c.page+c.n; page++ {
		delete(p.held, page)
		if c.set {
			p.held[page] = held{c.e, p.stamp}
		}
	}
	return api.OK
}

// text: the call's name, for a failure.
func (c call) text() string {
	if c.set {
		return "Set"
	}
	return "Clear"
}

// apply: calls answer as the chapter asks.
func apply(t *testing.T, m *Map, p *plain, calls ...call) {
	t.Helper()
	for _, c := range calls {
		want := c.told(p)
		if got := c.on(m); got != want {
			t.Fatalf("%s(%d, %d, %v): %v, not %v; %d pages", c.text(), c.page, c.n, c.e, got, want, p.pages)
		}
	}
}

func made(t *testing.T, pages int) *Map {
	t.Helper()
	m, errno := New(pages)
	if m == nil || errno != api.OK {
		t.Fatalf("New(%d): %v", pages, errno)
	}
	return m
}

// after: a map behind these calls, none of which is an error.
func after(t *testing.T, pages int, calls ...call) (*Map, *plain) {
	t.Helper()
	m, p := made(t, pages), newPlain(pages)
	for _, c := range calls {
		if errno := c.on(m); errno != api.OK {
			t.Fatalf("%s(%d, %d, %v): %v", c.text(), c.page, c.n, c.e, errno)
		}
		c.told(p)
	}
	same(t, m, p)
	return m, p
}

// same: every call that tells something tells what the chapter asks.
func same(t *testing.T, m *Map, p *plain) {
	t.Helper()
	sameWords(t, m, p)
	for version := -1; version <= 4; version++ {
		for state := -1; state <= 8; state++ {
			if got, want := m.Count(version, state), p.count(version, state); got != want {
				t.Fatalf("Count(%d, %d): %d, not %d", version, state, got, want)
			}
		}
	}
}

// sameWords: as same, but without Count.
func sameWords(t *testing.T, m *Map, p *plain) {
	t.Helper()
	if got := m.Stamp(); got != p.stamp {
		t.Fatalf("Stamp: %d, not %d", got, p.stamp)
	}
	if got, want := m.Leaves(), p.leaves(); got != want {
		t.Fatalf("Leaves: %d, not %d", got, want)
	}
	for page := -1; page <= p.pages; page++ {
		samePage(t, m, p, page)
	}
}

func samePage(t *testing.T, m *Map, p *plain, page int) {
	t.Helper()
	want, there := p.held[page]
	if got, ok := m.Get(page); ok != there || got != want.e {
		t.Fatalf("Get(%d): %v, %v, not %v, %v", page, got, ok, want.e, there)
	}
	if got := m.Word(page); got != p.word(page) {
		t.Fatalf("Word(%d): %#x, not %#x", page, got, p.word(page))
	}
}

// step: a call with its error, and the stamp and the leaves behind it, as they are written out.
type step struct {
	call   call
	errno  api.Errno
	stamp  uint64
	leaves int
}

// wantSteps: each step answers what is written out, and leaves what the chapter asks.
func wantSteps(t *testing.T, pages int, steps ...step) *Map {
	t.Helper()
	m, p := made(t, pages), newPlain(pages)
	for k, x := range steps {
		x.call.told(p)
		if got := x.call.on(m); got != x.errno {
			t.Fatalf("step %d: %v, not %v", k, got, x.errno)
		}
		if m.Stamp() != x.stamp || m.Leaves() != x.leaves {
			t.Fatalf("step %d: stamp %d, %d leaves, not %d, %d", k, m.Stamp(), m.Leaves(), x.stamp, x.leaves)
		}
		same(t, m, p)
	}
	return m
}

// wantWords: pages have these words, in turn from one on.
func wantWords(t *testing.T, m *Map, page int, words ...uint64) {
	t.Helper()
	for k, want := range words {
		if got := m.Word(page + k); got != want {
			t.Errorf("Word(%d): %#x, not %#x", page+k, got, want)
		}
	}
}

// hostileInts: numbers at which a page, a count or a bound may go wrong.
func hostileInts(more ...int) []int {
	list := []int{math.MinInt, math.MinInt + 1, math.MaxInt - 1, math.MaxInt, 0x5555555555555555}
	for k := range 63 {
		list = append(list, 1<<k, -1<<k, 1<<k-1)
	}
	for d := -2; d <= 2; d++ {
		list = append(list, d, 64+d, 1<<32+d, 1<<32+64+d, 1<<40+d, math.MaxInt-4096+d, math.MinInt+4096+d)
		for _, number := range more {
			list = append(list, number+d, -number+d, math.MaxInt-number+d-2, math.MinInt+number+d+2)
		}
	}
	return list
}

// ordinary and greatest are entries that are right.
var (
	ordinary = Entry{Span: 5, Version: 1, Class: 2, State: 3}
	greatest = Entry{Span: 4095, Version: 3, Class: 63, State: 7}
)

// P10.1: New of 0, of 1 and of all pages, and of those beyond each bound.
func TestNew(t *testing.T) {
	for _, pages := range []int{0, 1, 2, 63, 64, 65, 127, 128, 129, 4095, 4096} {
		m, p := after(t, pages)
		if m.Stamp() != 0 || m.Leaves() != 0 || m.Count(0, 0) != 0 {
			t.Errorf("New(%d): stamp %d, %d leaves, Count(0, 0) %d", pages, m.Stamp(), m.Leaves(), m.Count(0, 0))
		}
		same(t, m, p)
	}
	for _, pages := range append(hostileInts(4096), -1, 4097) {
		m, errno := New(pages)
		if right := pages >= 0 && pages <= 4096; right != (m != nil) || right != (errno == api.OK) {
			t.Errorf("New(%d): %v, %v", pages, m, errno)
		}
		if errno != api.OK && errno != api.ErrRange {
			t.Errorf("New(%d): %v", pages, errno)
		}
	}
}

// P10.1: that there are so many pages is told by Set of the last one and of the next one.
func TestNewHasSoManyPages(t *testing.T) {
	for pages := range 4097 {
		m := made(t, pages)
		if pages > 0 && (m.Set(pages-1, 1, ordinary) != api.OK || m.Set(0, pages, ordinary) != api.OK) {
			t.Fatalf("%d pages: they aren't there", pages)
		}
		if m.Set(pages, 1, ordinary) != api.ErrRange || m.Set(0, pages+1, ordinary) != api.ErrRange {
			t.Fatalf("%d pages: there is one more", pages)
		}
		if want := (pages + 63) / 64; m.Leaves() != want {
			t.Fatalf("%d pages: %d leaves, not %d", pages, m.Leaves(), want)
		}
	}
}

// P10.2: the chapter's example, and what goes with it.
func TestExample(t *testing.T) {
	m, p := after(t, 16, set(5, 1, Entry{5, 1, 2, 3}))
	wantWords(t, m, 4, 0, 1+2*3+16*2+1024*1+4096*5+1<<24, 0)
	if e, ok := m.Get(5); !ok || e != (Entry{Span: 5, Version: 1, Class: 2, State: 3}) {
		t.Errorf("Get(5): %v, %v", e, ok)
	}
	if m.Stamp() != 1 || m.Leaves() != 1 || m.Count(1, 3) != 1 || m.Count(3, 1) != 0 {
		t.Errorf("stamp %d, %d leaves", m.Stamp(), m.Leaves())
	}
	same(t, m, p)
}

// P10.2: each field of a word has its own bits, and no number of an entry goes for another one.
func TestFieldsOfWords(t *testing.T) {
	for _, x := range []struct {
		e    Entry
		word uint64
	}{
		{Entry{}, 0x0000000001000001},
		{Entry{State: 1}, 0x0000000001000003},
		{Entry{State: 7}, 0x000000000100000f},
		{Entry{Class: 1}, 0x0000000001000011},
		{Entry{Class: 63}, 0x00000000010003f1},
		{Entry{Version: 1}, 0x0000000001000401},
		{Entry{Version: 3}, 0x0000000001000c01},
		{Entry{Span: 1}, 0x0000000001001001},
		{Entry{Span: 4095}, 0x0000000001fff001},
		{greatest, 0x0000000001ffffff},
		{Entry{Span: 0xabc, Version: 2, Class: 0x15, State: 5}, 0x0000000001abc95b},
	} {
		m, p := after(t, 3, set(1, 1, x.e))
		wantWords(t, m, 0, 0, x.word, 0)
		if e, ok := m.Get(1); !ok || e != x.e {
			t.Errorf("Get(1): %v, %v, not %v", e, ok, x.e)
		}
		same(t, m, p)
	}
}

// P10.1, P10.2: all numbers that an entry may have, each with the least and the greatest of the others.
func TestEveryNumberOfEntries(t *testing.T) {
	m, p := after(t, 2)
	for _, base := range []Entry{{}, greatest} {
		for number := -1; number <= 4096; number++ {
			for field := range 4 {
				e := base
				*[]*int{&e.Span, &e.Version, &e.Class, &e.State}[field] = number
				apply(t, m, p, set(1, 1, e))
				samePage(t, m, p, 1)
			}
		}
		same(t, m, p)
	}
}

// P10.1: numbers of an entry one beyond each bound are ErrRange, and nothing changes.
func TestEntriesOutOfBounds(t *testing.T) {
	for _, calls := range [][]call{nil, {set(0, 3, ordinary)}, {set(0, 130, greatest), erase(64, 1)}} {
		m, p := after(t, 130, calls...)
		for _, e := range []Entry{
			{Span: -1}, {Span: 4096}, {Version: -1}, {Version: 4}, {Class: -1}, {Class: 64}, {State: -1}, {State: 8},
			{4096, 3, 63, 7}, {4095, 4, 63, 7}, {4095, 3, 64, 7}, {4095, 3, 63, 8}, {-1, -1, -1, -1}, {4096, 4, 64, 8},
			{-1, 3, 63, 7}, {4095, -1, 63, 7}, {4095, 3, -1, 7}, {4095, 3, 63, -1},
		} {
			for _, c := range []call{set(0, 1, e), set(0, 130, e), set(64, 2, e), set(129, 1, e), set(130, 1, e), set(0, 0, e)} {
				if errno := c.on(m); errno != api.ErrRange {
					t.Errorf("Set(%d, %d, %v): %v", c.page, c.n, e, errno)
				}
				same(t, m, p)
			}
		}
		for _, number := range hostileInts(7, 63, 4095) {
			for field := range 4 {
				var e Entry
				*[]*int{&e.Span, &e.Version, &e.Class, &e.State}[field] = number
				one, q := m.Clone(), p.clone()
				apply(t, one, q, set(5, 1, e))
				sameWords(t, one, q)
			}
		}
		same(t, m, p)
	}
}

// P10.1: a span's number hangs not on how many pages there are.
func TestSpanBeyondThePages(t *testing.T) {
	m, p := after(t, 1, set(0, 1, greatest))
	wantWords(t, m, 0, 1<<24-1+1<<24)
	same(t, m, p)
}

// P10.1: Set and Clear of 0 pages, of 1, of all, of just up to the last page and of one more, at the first and the last page, below and beyond.
func TestWhichPages(t *testing.T) {
	for _, x := range []struct {
		page, n int
		errno   api.Errno
	}{
		{0, 1, api.OK}, {0, 130, api.OK}, {129, 1, api.OK}, {1, 129, api.OK}, {128, 2, api.OK}, {64, 66, api.OK}, {5, 125, api.OK},
		{0, 0, api.ErrRange}, {64, 0, api.ErrRange}, {129, 0, api.ErrRange}, {130, 0, api.ErrRange}, {-1, 0, api.ErrRange},
		{0, 131, api.ErrRange}, {1, 130, api.ErrRange}, {129, 2, api.ErrRange}, {5, 126, api.ErrRange}, {64, 67, api.ErrRange}, {0, 192, api.ErrRange},
		{130, 1, api.ErrRange}, {131, 1, api.ErrRange}, {191, 1, api.ErrRange}, {192, 1, api.ErrRange}, {4095, 1, api.ErrRange}, {4096, 1, api.ErrRange}, {131, -1, api.ErrRange},
		{-1, 1, api.ErrRange}, {-1, 2, api.ErrRange}, {-1, 131, api.ErrRange}, {-130, 131, api.ErrRange}, {-64, 65, api.ErrRange},
		{0, -1, api.ErrRange}, {129, -1, api.ErrRange}, {130, -1, api.ErrRange}, {64, -64, api.ErrRange},
		{1, math.MaxInt, api.ErrRange}, {0, math.MaxInt, api.ErrRange}, {129, math.MaxInt, api.ErrRange}, {math.MaxInt, 1, api.ErrRange}, {math.MaxInt, math.MaxInt, api.ErrRange},
		{math.MinInt, 1, api.ErrRange}, {math.MinInt, math.MaxInt, api.ErrRange}, {math.MinInt, math.MinInt, api.ErrRange}, {0, math.MinInt, api.ErrRange}, {math.MaxInt, math.MinInt, api.ErrRange}, {-1, math.MinInt, api.ErrRange}, {math.MinInt + 5, math.MinInt, api.ErrRange},
	} {
		for _, full := range []bool{false, true} {
			m, p := after(t, 130)
			if full {
				m, p = after(t, 130, set(0, 130, ordinary))
			}
			one, q := m.Clone(), p.clone()
			if errno := one.Set(x.page, x.n, greatest); errno != x.errno {
				t.Errorf("Set(%d, %d): %v, not %v", x.page, x.n, errno, x.errno)
			}
			set(x.page, x.n, greatest).told(q)
			same(t, one, q)
			want := x.errno
			if !full && want == api.OK {
				want = api.ErrNone
			}
			if errno := m.Clear(x.page, x.n); errno != want {
				t.Errorf("Clear(%d, %d): %v, not %v", x.page, x.n, errno, want)
			}
			erase(x.page, x.n).told(p)
			same(t, m, p)
		}
	}
}

// P10.1, P10.2: a run within one leaf, of just one, across two and across several, also where the last one isn't whole.
func TestRunsAndLeaves(t *testing.T) {
	for _, x := range []struct{ pages, page, n, leaves int }{
		{200, 3, 7, 1}, {200, 0, 64, 1}, {200, 64, 64, 1}, {200, 128, 64, 1}, {200, 63, 1, 1}, {200, 64, 1, 1}, {200, 65, 62, 1},
		{200, 63, 2, 2}, {200, 0, 65, 2}, {200, 63, 65, 2}, {200, 64, 65, 2}, {200, 10, 100, 2}, {200, 0, 128, 2},
		{200, 63, 66, 3}, {200, 0, 192, 3}, {200, 0, 193, 4}, {200, 0, 200, 4}, {200, 63, 130, 4}, {200, 62, 131, 4},
		{200, 192, 8, 1}, {200, 199, 1, 1}, {200, 191, 9, 2}, {200, 191, 2, 2}, {200, 127, 73, 3},
		{4096, 0, 4096, 64}, {4096, 1, 4094, 64}, {4096, 64, 4032, 63}, {4096, 4032, 64, 1}, {4096, 4031, 65, 2}, {4095, 0, 4095, 64}, {4095, 4032, 63, 1}, {4095, 4094, 1, 1}, {1, 0, 1, 1},
	} {
		m := wantSteps(t, x.pages,
			step{set(x.page, x.n, greatest), api.OK, 1, x.leaves},
			step{set(x.page, x.n, ordinary), api.OK, 2, x.leaves},
			step{erase(x.page, x.n), api.OK, 3, 0},
			step{erase(x.page, x.n), api.ErrNone, 3, 0},
			step{set(x.page, x.n, ordinary), api.OK, 4, x.leaves},
		)
		if m.Count(1, 3) != x.n {
			t.Errorf("Count(1, 3): %d, not %d", m.Count(1, 3), x.n)
		}
	}
}

// P10.1, P10.2: Set over entries that are there: over all of them, over some at either end, and within.
func TestSetOver(t *testing.T) {
	m := wantSteps(t, 8,
		step{set(1, 5, Entry{Span: 1}), api.OK, 1, 1},
		step{set(2, 1, Entry{Span: 2}), api.OK, 2, 1},
		step{set(0, 2, Entry{Span: 3}), api.OK, 3, 1},
		step{set(5, 3, Entry{Span: 4}), api.OK, 4, 1},
		step{set(3, 1, Entry{Span: 1}), api.OK, 5, 1},
	)
	wantWords(t, m, 0, 0x3003001, 0x3003001, 0x2002001, 0x5001001, 0x1001001, 0x4004001, 0x4004001, 0x4004001)
	if m.Count(0, 0) != 8 {
		t.Errorf("Count(0, 0): %d", m.Count(0, 0))
	}
}

// P10.1: Set over a greater entry leaves nothing of it, not a bit.
func TestSetOverGreatest(t *testing.T) {
	m := wantSteps(t, 70,
		step{set(0, 70, greatest), api.OK, 1, 2},
		step{set(0, 70, Entry{}), api.OK, 2, 2},
	)
	wantWords(t, m, 63, 0x2000001, 0x2000001)
	m = wantSteps(t, 70,
		step{set(0, 70, Entry{}), api.OK, 1, 2},
		step{set(0, 70, greatest), api.OK, 2, 2},
	)
	wantWords(t, m, 63, 0x2ffffff, 0x2ffffff)
}

// P10.1: Clear where all have an entry, where one of them has none (the first, one within, the last), and where none has; nothing changes with an error.
func TestClear(t *testing.T) {
	for _, x := range []struct{ page, n int }{{0, 1}, {0, 3}, {62, 4}, {60, 130}, {64, 64}, {10, 190}, {190, 10}} {
		holes := []int{x.page, x.page + x.n/2, x.page + x.n - 1, x.page + 63 - x.page%64, x.page + 64 - x.page%64}
		for _, hole := range holes {
			if hole >= x.page+x.n {
				continue
			}
			m, p := after(t, 200, set(0, 200, greatest), erase(hole, 1))
			if errno := m.Clear(x.page, x.n); errno != api.ErrNone {
				t.Errorf("Clear(%d, %d) without %d: %v", x.page, x.n, hole, errno)
			}
			same(t, m, p)
		}
		m, p := after(t, 200, set(x.page, x.n, Entry{}))
		if errno := m.Clear(x.page, x.n); errno != api.OK {
			t.Errorf("Clear(%d, %d): %v", x.page, x.n, errno)
		}
		erase(x.page, x.n).told(p)
		same(t, m, p)
		if errno := m.Clear(x.page, x.n); errno != api.ErrNone || m.Stamp() != 2 {
			t.Errorf("Clear(%d, %d) again: %v, stamp %d", x.page, x.n, errno, m.Stamp())
		}
		same(t, m, p)
	}
}

// P10.1: Clear of pages that other calls, and other entries, have set; those beside them stay.
func TestClearBeside(t *testing.T) {
	m := wantSteps(t, 130,
		step{set(60, 3, ordinary), api.OK, 1, 1},
		step{set(63, 3, greatest), api.OK, 2, 2},
		step{set(66, 1, Entry{}), api.OK, 3, 2},
		step{erase(61, 5), api.OK, 4, 2},
		step{erase(61, 1), api.ErrNone, 4, 2},
		step{erase(60, 2), api.ErrNone, 4, 2},
		step{erase(65, 2), api.ErrNone, 4, 2},
	)
	wantWords(t, m, 59, 0, 1<<24+4096*5+1024+16*2+2*3+1, 0, 0, 0, 0, 0, 3<<24+1, 0)
}

// P10.1: of several errors the first one is told: ErrRange ahead of ErrNone.
func TestErrorsInOrder(t *testing.T) {
	m, p := after(t, 70, set(0, 3, ordinary))
	for _, c := range []call{
		erase(69, 2), erase(70, 1), erase(-1, 2), erase(3, 0), erase(3, -1), erase(3, 68), erase(64, 7), erase(64, math.MaxInt), erase(math.MinInt, 1), erase(4096, 4096),
	} {
		if errno := c.on(m); errno != api.ErrRange {
			t.Errorf("Clear(%d, %d): %v", c.page, c.n, errno)
		}
		same(t, m, p)
	}
}

// P10.2: the stamp behind each call, also one with an error, and the stamps of words that a later call didn't write.
func TestStamps(t *testing.T) {
	m := wantSteps(t, 130,
		step{set(0, 0, Entry{}), api.ErrRange, 0, 0},
		step{erase(0, 1), api.ErrNone, 0, 0},
		step{set(0, 3, Entry{}), api.OK, 1, 1},
		step{set(130, 1, Entry{}), api.ErrRange, 1, 1},
		step{set(0, 1, Entry{State: 8}), api.ErrRange, 1, 1},
		step{erase(0, 4), api.ErrNone, 1, 1},
		step{erase(-1, 1), api.ErrRange, 1, 1},
		step{set(100, 2, Entry{}), api.OK, 2, 2},
		step{erase(1, 1), api.OK, 3, 2},
		step{erase(1, 1), api.ErrNone, 3, 2},
		// The same entry once more is written once more.
		step{set(101, 2, Entry{}), api.OK, 4, 2},
		step{set(101, 1, Entry{}), api.OK, 5, 2},
		step{set(1, 1, Entry{}), api.OK, 6, 2},
		step{erase(100, 1), api.OK, 7, 2},
	)
	wantWords(t, m, 0, 1<<24+1, 6<<24+1, 1<<24+1, 0)
	wantWords(t, m, 100, 0, 5<<24+1, 4<<24+1, 0)
}

// P10.2: one call adds 1, however many pages and leaves it writes.
func TestStampOfLongRuns(t *testing.T) {
	m := wantSteps(t, 4096,
		step{set(0, 4096, ordinary), api.OK, 1, 64},
		step{erase(1, 4094), api.OK, 2, 2},
		step{set(1, 4094, ordinary), api.OK, 3, 64},
	)
	if m.Word(0)>>24 != 1 || m.Word(1)>>24 != 3 || m.Word(4094)>>24 != 3 || m.Word(4095)>>24 != 1 {
		t.Errorf("stamps %d, %d, %d, %d", m.Word(0)>>24, m.Word(1)>>24, m.Word(4094)>>24, m.Word(4095)>>24)
	}
}

// P10.2: behind 2^40 - 1 the stamp is 0 again, and such a word is there all the same.
func TestStampGoesRound(t *testing.T) {
	const last = 1<<40 - 1
	m, p := after(t, 130, set(0, 130, greatest))
	m.stamp, p.stamp = last-2, last-2
	for _, x := range []struct {
		call  call
		stamp uint64
	}{
		{set(0, 1, greatest), last - 1}, {set(1, 1, greatest), last}, {set(130, 1, greatest), last}, {set(2, 1, Entry{}), 0}, {set(3, 1, greatest), 1},
	} {
		apply(t, m, p, x.call)
		if m.Stamp() != x.stamp {
			t.Fatalf("Stamp: %d, not %d", m.Stamp(), x.stamp)
		}
		same(t, m, p)
	}
	wantWords(t, m, 0, math.MaxUint64-1<<24, math.MaxUint64, 1, 1<<24+1<<24-1, 1<<24+1<<24-1)
	if e, ok := m.Get(2); !ok || e != (Entry{}) || m.Count(0, 0) != 1 || m.Clear(2, 1) != api.OK {
		t.Errorf("Get(2): %v, %v, Count(0, 0) %d", e, ok, m.Count(0, 0))
	}
	m.stamp = last
	if m.Clear(0, 1) != api.OK || m.Stamp() != 0 {
		t.Errorf("Stamp: %d", m.Stamp())
	}
}

// P10.2: a leaf goes with its last entry, and comes again with one.
func TestLeavesGoAndCome(t *testing.T) {
	wantSteps(t, 130,
		step{set(63, 2, ordinary), api.OK, 1, 2},
		step{erase(63, 1), api.OK, 2, 1},
		step{set(0, 1, Entry{}), api.OK, 3, 2},
		step{set(127, 3, ordinary), api.OK, 4, 3},
		step{erase(64, 1), api.OK, 5, 3},
		step{erase(127, 1), api.OK, 6, 2},
		step{erase(128, 3), api.ErrRange, 6, 2},
		step{erase(127, 2), api.ErrNone, 6, 2},
		step{erase(129, 1), api.OK, 7, 2},
		step{erase(128, 1), api.OK, 8, 1},
		step{set(128, 1, Entry{}), api.OK, 9, 2},
		step{set(64, 64, ordinary), api.OK, 10, 3},
		step{erase(65, 62), api.OK, 11, 3},
		step{erase(64, 1), api.OK, 12, 3},
		step{erase(127, 2), api.OK, 13, 1},
		step{erase(0, 1), api.OK, 14, 0},
		step{set(0, 130, greatest), api.OK, 15, 3},
		step{erase(1, 128), api.OK, 16, 2},
		step{erase(0, 1), api.OK, 17, 1},
		step{erase(129, 1), api.OK, 18, 0},
	)
}

// P10.2: each page alone keeps its leaf, and no other one.
func TestEachPageKeepsItsLeaf(t *testing.T) {
	m := made(t, 4096)
	for page := range 4096 {
		if m.Set(page, 1, Entry{}) != api.OK || m.Leaves() != 1 || m.leaves[page/64] == nil {
			t.Fatalf("page %d: %d leaves", page, m.Leaves())
		}
		if m.Clear(page, 1) != api.OK || m.Leaves() != 0 {
			t.Fatalf("page %d: %d leaves behind Clear", page, m.Leaves())
		}
	}
}

// P10.2: Count of each version and state, each of which so many pages have as no other pair.
func TestCount(t *testing.T) {
	m, p := after(t, 600)
	page := 0
	for version := range 4 {
		for state := range 8 {
			apply(t, m, p, set(page, version*8+state+1, Entry{Span: page, Version: version, Class: 63 - state, State: state}))
			page += version*8 + state + 1
		}
	}
	for version := range 4 {
		for state := range 8 {
			if got := m.Count(version, state); got != version*8+state+1 {
				t.Errorf("Count(%d, %d): %d", version, state, got)
			}
		}
	}
	same(t, m, p)
	apply(t, m, p, erase(0, 1), set(1, 2, greatest))
	if m.Count(0, 0) != 0 || m.Count(0, 1) != 0 || m.Count(3, 7) != 34 {
		t.Errorf("Count %d, %d, %d", m.Count(0, 0), m.Count(0, 1), m.Count(3, 7))
	}
	same(t, m, p)
}

// P10.2: Count of versions and states that are none is 0, where all pages have an entry and where none has.
func TestCountOutOfBounds(t *testing.T) {
	for _, calls := range [][]call{nil, {set(0, 70, Entry{})}, {set(0, 70, greatest)}, {set(0, 70, ordinary)}} {
		m, p := after(t, 70, calls...)
		for _, number := range hostileInts(3, 7) {
			for other := -1; other <= 8; other++ {
				if got, want := m.Count(number, other), p.count(number, other); got != want {
					t.Fatalf("Count(%d, %d): %d, not %d", number, other, got, want)
				}
				if got, want := m.Count(other, number), p.count(other, number); got != want {
					t.Fatalf("Count(%d, %d): %d, not %d", other, number, got, want)
				}
			}
		}
	}
}

// P10.2: Get and Word of pages that are none, or have no entry.
func TestPagesWithoutEntry(t *testing.T) {
	for _, pages := range []int{0, 1, 63, 64, 65, 130, 4096} {
		m, p := after(t, pages)
		if pages > 0 {
			m, p = after(t, pages, set(0, pages, greatest))
		}
		for _, page := range hostileInts(pages, 4096) {
			samePage(t, m, p, page)
		}
		if e, ok := m.Get(pages); ok || e != (Entry{}) || m.Word(pages) != 0 || m.Word(-1) != 0 {
			t.Errorf("Get(%d): %v, %v", pages, e, ok)
		}
		same(t, m, p)
	}
}

// P10.2: what only tells changes nothing, and makes no leaf.
func TestTellingChangesNothing(t *testing.T) {
	m, p := after(t, 200, set(3, 1, ordinary))
	for page := -1; page <= 200; page++ {
		m.Get(page)
		m.Word(page)
	}
	m.Count(0, 0)
	m.Clone()
	if m.Leaves() != 1 || m.Stamp() != 1 {
		t.Errorf("%d leaves, stamp %d", m.Leaves(), m.Stamp())
	}
	same(t, m, p)
}

// P10.2: a clone is the same, and a change of either side doesn't change the other one.
func TestClone(t *testing.T) {
	for _, calls := range [][]call{nil, {set(0, 200, greatest)}, {set(5, 1, ordinary), set(62, 70, Entry{}), erase(64, 3)}, {set(0, 200, ordinary), erase(0, 200)}} {
		m, p := after(t, 200, calls...)
		c, q := m.Clone(), p.clone()
		same(t, c, q)
		for _, x := range []call{set(0, 2, ordinary), set(60, 80, greatest), erase(70, 1), erase(60, 3), set(199, 1, Entry{}), erase(300, 1)} {
			apply(t, m, p, x)
			same(t, m, p)
			same(t, c, q)
		}
		again, r := c.Clone(), q.clone()
		for _, x := range []call{set(128, 72, Entry{Class: 9}), erase(129, 70), set(63, 2, ordinary), erase(128, 1), erase(199, 1), erase(0, 5)} {
			apply(t, c, q, x)
			same(t, c, q)
			same(t, m, p)
			same(t, again, r)
		}
		apply(t, again, r, set(0, 200, Entry{}), erase(0, 200), set(200, 1, Entry{}), set(199, 2, Entry{}))
		same(t, again, r)
		same(t, c, q)
		same(t, m, p)
	}
}

// P10.2: stamp, leaves, words and counts are each side's own behind a clone, in written numbers.
func TestCloneApart(t *testing.T) {
	m := made(t, 130)
	m.Set(0, 1, Entry{})
	c := m.Clone()
	m.Set(0, 1, greatest)
	if m.Stamp() != 2 || c.Stamp() != 1 || m.Word(0) != 0x2ffffff || c.Word(0) != 0x1000001 {
		t.Errorf("stamps %d, %d; words %#x, %#x", m.Stamp(), c.Stamp(), m.Word(0), c.Word(0))
	}
	c.Set(1, 1, Entry{})
	c.Set(128, 2, Entry{})
	if c.Stamp() != 3 || m.Stamp() != 2 || m.Word(1) != 0 || m.Word(128) != 0 || m.Leaves() != 1 || c.Leaves() != 2 {
		t.Errorf("stamps %d, %d; %d, %d leaves", m.Stamp(), c.Stamp(), m.Leaves(), c.Leaves())
	}
	m.Clear(0, 1)
	if m.Leaves() != 0 || c.Leaves() != 2 || m.Count(0, 0) != 0 || c.Count(0, 0) != 4 || c.Stamp() != 3 {
		t.Errorf("%d, %d leaves; Count(0, 0) %d, %d", m.Leaves(), c.Leaves(), m.Count(0, 0), c.Count(0, 0))
	}
}

// walk: every call behind every row of calls, each on a clone; the one that was cloned stays as it was.
func walk(t *testing.T, m *Map, p *plain, calls []call, depth int) {
	t.Helper()
	sameWords(t, m, p)
	if depth == 0 {
		return
	}
	for _, c := range calls {
		next, q := m.Clone(), p.clone()
		apply(t, next, q, c)
		walk(t, next, q, calls, depth-1)
	}
	sameWords(t, m, p)
}

// P10.1, P10.2: every row of up to three calls, of few pages, and about the bound of two leaves.
func TestEveryRowOfCalls(t *testing.T) {
	for _, x := range []struct{ pages, from, to int }{{0, -1, 1}, {1, -1, 1}, {2, -1, 2}, {65, 63, 65}} {
		var calls []call
		for page := x.from; page <= x.to; page++ {
			for n := range 4 {
				calls = append(calls, set(page, n, ordinary), erase(page, n))
			}
		}
		walk(t, made(t, x.pages), newPlain(x.pages), calls, 3)
	}
}

// picks: a row of numbers that is always the same and looks like none.
type picks uint64

func (k *picks) below(n int) int {
	*k = *k*6364136223846793005 + 1442695040888963407
	return int(uint64(*k)>>33) % n
}

// entry: one that is right, and now and then one that is beyond a bound.
func (k *picks) entry() Entry {
	e := Entry{k.below(4096), k.below(4), k.below(64), k.below(8)}
	switch k.below(40) {
	case 0:
		e.Span = 4096
	case 1:
		e.Version = -1
	case 2:
		e.Class = 64
	case 3:
		e.State = 8
	}
	return e
}

// P10.1, P10.2: many calls one after another, on few and on many pages.
func TestManyChanges(t *testing.T) {
	for _, x := range []struct{ pages, longest, calls int }{{1, 1, 300}, {5, 4, 2000}, {64, 20, 1500}, {130, 70, 1500}, {200, 10, 1500}, {4096, 300, 200}} {
		m, p := made(t, x.pages), newPlain(x.pages)
		k := picks(x.pages)
		for range x.calls {
			page, n := k.below(x.pages+2)-1, k.below(x.longest)+1
			switch k.below(4) {
			case 0, 1:
				apply(t, m, p, set(page, n, k.entry()))
			case 2:
				apply(t, m, p, erase(page, n))
			default:
				// As many as have an entry, from a page on, so that Clear does something.
				n = 0
				for p.word(page+n) != 0 && n < x.longest {
					n++
				}
				apply(t, m, p, erase(page, n))
			}
			sameWords(t, m, p)
		}
		same(t, m, p)
	}
}

// P10.1, P10.2, P1: every call at any numbers.
func TestAnyNumbers(t *testing.T) {
	for _, x := range []struct {
		pages int
		calls []call
	}{
		{0, nil}, {1, []call{set(0, 1, ordinary)}}, {70, []call{set(3, 64, greatest)}}, {200, []call{set(0, 200, ordinary)}}, {4096, nil},
	} {
		m, p := after(t, x.pages, x.calls...)
		numbers := hostileInts(x.pages)
		few := []int{math.MinInt, -4096, -1, 0, 1, 3, 63, 64, x.pages - 1, x.pages, x.pages + 1, 1 << 32, 1<<32 + 1, math.MaxInt - 1, math.MaxInt}
		for _, number := range numbers {
			samePage(t, m, p, number)
			for _, other := range few {
				for _, c := range []call{set(number, other, ordinary), set(other, number, ordinary), erase(number, other), erase(other, number)} {
					if !p.there(c.page, c.n) {
						// The map itself is asked: nothing may change, which is held against the chapter at the end.
						apply(t, m, p, c)
						continue
					}
					one, q := m.Clone(), p.clone()
					apply(t, one, q, c)
					sameWords(t, one, q)
				}
			}
		}
		same(t, m, p)
	}
}
