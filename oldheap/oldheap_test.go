package oldheap

import (
	"math"
	"slices"
	"testing"

	"underpin/api"
	"underpin/ground"
	"underpin/ledger"
	"underpin/oldslab"
	"underpin/radix"
	"underpin/tags"
)

// classSizes: the old layout's classes, as chapter 5 tells them.
func classSizes() []int {
	return []int{16, 32, 48, 64, 80, 96, 112, 128, 160, 192, 224, 256, 320, 384, 448, 512}
}

// slab: what a slab is by the chapter, told slot by slot.
type slab struct {
	class int
	taken []bool
}

func newSlab(class int, taken ...int) *slab {
	s := &slab{class: class}
	for slot := range 1024 / classSizes()[class] {
		s.taken = append(s.taken, slices.Contains(taken, slot))
	}
	return s
}

// slots: the slots that are taken, rising.
func (s *slab) slots() []int {
	var list []int
	for slot, is := range s.taken {
		if is {
			list = append(list, slot)
		}
	}
	return list
}

// list: the list of the slab's state.
func (s *slab) list() int {
	switch {
	case !slices.Contains(s.taken, true):
		return 2
	case !slices.Contains(s.taken, false):
		return 1
	default:
		return 0
	}
}

// plain: what a heap is by the chapter: slabs by their pages, and each class's lists of pages. It has a ground of its own, on which it does what the chapter asks, so that both grounds must be the same.
type plain struct {
	ground *ground.Ground
	slabs  map[int]*slab
	lists  [16][4][]int
}

// where: the list in which a slab stands, by looking into each; -1, if it is in none.
func (p *plain) where(page int) int {
	for _, lists := range p.lists {
		for list, pages := range lists {
			if slices.Contains(pages, page) {
				return list
			}
		}
	}
	return -1
}

// leave: a slab leaves its list and the heap.
func (p *plain) leave(page int) {
	p.unlist(page)
	delete(p.slabs, page)
}

func (p *plain) unlist(page int) {
	for class, lists := range p.lists {
		for list, pages := range lists {
			p.lists[class][list] = slices.DeleteFunc(slices.Clone(pages), func(other int) bool { return other == page })
		}
	}
}

// toFront: a slab comes to the front of a list.
func (p *plain) toFront(page, list int) {
	p.unlist(page)
	at := &p.lists[p.slabs[page].class][list]
	*at = append([]int{page}, *at...)
}

// toState: it does so with the list of its state, if it stands in another one, or in none.
func (p *plain) toState(page int) {
	if list := p.slabs[page].list(); p.where(page) != list {
		p.toFront(page, list)
	}
}

func (p *plain) mark(page, state int) { p.ground.Mark(page, 0, p.slabs[page].class, state) }

func (p *plain) take(class int) (int, api.Errno) {
	if class < 0 || class > 15 {
		return -1, api.ErrRange
	}
	var page int
	switch lists := p.lists[class]; {
	case len(lists[0]) > 0:
		page = lists[0][0]
	case len(lists[2]) > 0:
		page = lists[2][0]
	default:
		opened, errno := p.ground.Open(4, 4, 0, class)
		if errno != api.OK {
			return -1, errno
		}
		page = opened
		p.slabs[page] = newSlab(class)
	}
	s := p.slabs[page]
	slot := slices.Index(s.taken, false)
	s.taken[slot] = true
	p.toState(page)
	return 256*page + slot*classSizes()[class], api.OK
}

func (p *plain) some(class, n int) ([]int, api.Errno) {
	if class < 0 || class > 15 || n < 1 {
		return nil, api.ErrRange
	}
	var list []int
	for ; n > 0; n-- {
		at, errno := p.take(class)
		if errno != api.OK {
			if len(list) == 0 {
				return nil, errno
			}
			break
		}
		list = append(list, at)
	}
	return list, api.OK
}

// around: the page of the slab in whose 1,024 bytes an address lies, by trying each; -1, if there is none.
func (p *plain) around(at int) int {
	for page := range p.slabs {
		if 256*page <= at && at < 256*page+1024 {
			return page
		}
	}
	return -1
}

func (p *plain) find(at int) (tags.Place, api.Errno) {
	page := p.around(at)
	if page >= 0 {
		for slot := range p.slabs[page].taken {
			if 256*page+slot*classSizes()[p.slabs[page].class] == at {
				return tags.Place{Page: page, Slot: slot}, api.OK
			}
		}
	}
	return tags.Place{}, api.ErrPointer
}

func (p *plain) has(at int) bool {
	place, errno := p.find(at)
	return errno == api.OK && p.slabs[place.Page].taken[place.Slot]
}

func (p *plain) give(at int) api.Errno {
	place, errno := p.find(at)
	if errno != api.OK {
		return errno
	}
	s := p.slabs[place.Page]
	if !s.taken[place.Slot] {
		return api.ErrTwice
	}
	s.taken[place.Slot] = false
	sealed := p.where(place.Page) == 3
	if s.list() == 2 && (sealed || len(p.lists[s.class][2]) > 0) {
		p.leave(place.Page)
		p.ground.Close(place.Page)
		return api.OK
	}
	if !sealed {
		p.toState(place.Page)
	}
	return api.OK
}

func (p *plain) seal(page int) api.Errno {
	s, ok := p.slabs[page]
	if !ok {
		return api.ErrNone
	}
	if p.where(page) == 3 {
		return api.ErrState
	}
	if s.list() == 2 {
		p.leave(page)
		p.ground.Close(page)
		return api.OK
	}
	p.toFront(page, 3)
	p.mark(page, 1)
	return api.OK
}

func (p *plain) unseal(page int) api.Errno {
	if p.slabs[page] == nil {
		return api.ErrNone
	}
	if p.where(page) != 3 {
		return api.ErrState
	}
	p.toFront(page, p.slabs[page].list())
	p.mark(page, 0)
	return api.OK
}

func (p *plain) join(page int, s *slab) api.Errno {
	if p.slabs[page] != nil {
		return api.ErrThere
	}
	if p.ground.Len(page) != 4 {
		return api.ErrState
	}
	p.slabs[page] = s
	p.toFront(page, s.list())
	p.mark(page, 0)
	return api.OK
}

// pages: those of all slabs, rising.
func (p *plain) pages() []int {
	var list []int
	for page := range p.ground.Pages() {
		if p.slabs[page] != nil {
			list = append(list, page)
		}
	}
	return list
}

// takenOnes: the addresses of all taken slots, rising.
func (p *plain) takenOnes() []int {
	var list []int
	for _, page := range p.pages() {
		s := p.slabs[page]
		for _, slot := range s.slots() {
			list = append(list, 256*page+slot*classSizes()[s.class])
		}
	}
	return list
}

const (
	ofTake = iota
	ofSome
	ofGive
	ofSeal
	ofUnseal
	ofLeave
	ofJoin
	ofOpen
	ofClose
)

// call is one that may change a heap; Open and Close are somebody else's, of the ground.
type call struct {
	what, class, n int
	taken          []int
}

func take(class int) call      { return call{what: ofTake, class: class} }
func some(class, n int) call   { return call{what: ofSome, class: class, n: n} }
func give(at int) call         { return call{what: ofGive, n: at} }
func seal(page int) call       { return call{what: ofSeal, n: page} }
func unseal(page int) call     { return call{what: ofUnseal, n: page} }
func leave(page int) call      { return call{what: ofLeave, n: page} }
func elseOpens(n int) call     { return call{what: ofOpen, n: n} }
func elseCloses(page int) call { return call{what: ofClose, n: page} }

func (c call) text() string {
	return [...]string{"Take", "Some", "Give", "Seal", "Unseal", "Leave", "Join", "Open", "Close"}[c.what]
}

// join: a slab of a page, of a class, with these slots taken.
func join(page, class int, taken ...int) call {
	return call{ofJoin, class, page, taken}
}

// answer is what a call answers, an address as a list of one, a slab as its base, its class and its taken slots.
type answer struct {
	list  []int
	errno api.Errno
}

func only(e api.Errno) answer          { return answer{nil, e} }
func one(n int, e api.Errno) answer    { return answer{[]int{n}, e} }
func many(l []int, e api.Errno) answer { return answer{l, e} }

func (a answer) is(b answer) bool { return slices.Equal(a.list, b.list) && a.errno == b.errno }

// left: what Leave answers.
func left(s *oldslab.Slab, errno api.Errno) answer {
	if s == nil {
		return answer{nil, errno}
	}
	return answer{append([]int{s.Base(), s.Class()}, s.Taken()...), errno}
}

// on: what a heap, and its ground, answer to the call.
func (c call) on(h *Heap, g *ground.Ground) answer {
	switch c.what {
	case ofTake:
		return one(h.Take(c.class))
	case ofSome:
		return many(h.Some(c.class, c.n))
	case ofGive:
		return only(h.Give(c.n))
	case ofSeal:
		return only(h.Seal(c.n))
	case ofUnseal:
		return only(h.Unseal(c.n))
	case ofLeave:
		return left(h.Leave(c.n))
	case ofJoin:
		s, _ := oldslab.With(256*c.n, c.class, c.taken)
		return only(h.Join(s))
	default:
		return c.onGround(g)
	}
}

func (c call) onGround(g *ground.Ground) answer {
	if c.what == ofOpen {
		return one(g.Open(c.n, 1, ground.VLarge, 0))
	}
	return one(g.Close(c.n))
}

// told: what the chapter asks of the call.
func (c call) told(p *plain) answer {
	switch c.what {
	case ofTake:
		return one(p.take(c.class))
	case ofSome:
		return many(p.some(c.class, c.n))
	case ofGive:
		return only(p.give(c.n))
	case ofSeal:
		return only(p.seal(c.n))
	case ofUnseal:
		return only(p.unseal(c.n))
	case ofLeave:
		s := p.slabs[c.n]
		if s == nil {
			return only(api.ErrNone)
		}
		p.leave(c.n)
		return answer{append([]int{256 * c.n, s.class}, s.slots()...), api.OK}
	case ofJoin:
		return only(p.join(c.n, newSlab(c.class, c.taken...)))
	default:
		return c.onGround(p.ground)
	}
}

// pair is a heap and its ground, and what both are by the chapter.
type pair struct {
	h *Heap
	g *ground.Ground
	p *plain
}

// made: a heap on a ground of so many pages, behind some calls, each of which answers as the chapter asks.
func made(t *testing.T, pages int, calls ...call) pair {
	t.Helper()
	g, errno := ground.New(pages)
	if errno != api.OK {
		t.Fatal(errno)
	}
	told, _ := ground.New(pages)
	x := pair{New(g), g, &plain{ground: told, slabs: map[int]*slab{}}}
	if x.h == nil {
		t.Fatal("New: nil")
	}
	x.apply(t, calls...)
	return x
}

// apply: calls answer as the chapter asks, and leave what it asks.
func (x pair) apply(t *testing.T, calls ...call) {
	t.Helper()
	for _, c := range calls {
		want := c.told(x.p)
		if got := c.on(x.h, x.g); !got.is(want) {
			t.Fatalf("%s %+v: %v, not %v; lists %v", c.text(), c, got, want, x.p.lists)
		}
	}
	x.same(t)
}

// each: as apply, but all is compared behind each of the calls.
func (x pair) each(t *testing.T, calls ...call) {
	t.Helper()
	for _, c := range calls {
		x.apply(t, c)
	}
}

// same: every call that tells something tells what the chapter asks.
func (x pair) same(t *testing.T) {
	t.Helper()
	for class, lists := range x.p.lists {
		for list, want := range lists {
			if got := x.h.List(class, list); !slices.Equal(got, want) {
				t.Fatalf("List(%d, %d): %v, not %v", class, list, got, want)
			}
		}
		if got, want := x.h.Ready(class), len(lists[0])+len(lists[2]) > 0; got != want {
			t.Fatalf("Ready(%d): %v, not %v; lists %v", class, got, want, lists)
		}
	}
	if got, want := x.h.Pages(), x.p.pages(); !slices.Equal(got, want) {
		t.Fatalf("Pages: %v, not %v", got, want)
	}
	if got, want := x.h.Taken(), x.p.takenOnes(); !slices.Equal(got, want) {
		t.Fatalf("Taken: %v, not %v", got, want)
	}
	x.sameGround(t)
	for _, page := range x.p.pages() {
		x.sameSlab(t, page)
		x.samePlaces(t, 256*page-1, 256*page, 256*page+1, 256*page+512, 256*page+1023)
	}
}

// sameGround: both grounds tell the same.
func (x pair) sameGround(t *testing.T) {
	t.Helper()
	a, b := x.g, x.p.ground
	if a.Pages() != b.Pages() || a.Free() != b.Free() || a.Peak() != b.Peak() || a.Stamp() != b.Stamp() {
		t.Fatalf("the ground: %d pages, %d free, peak %d, stamp %d, not %d, %d, %d, %d", a.Pages(), a.Free(), a.Peak(), a.Stamp(), b.Pages(), b.Free(), b.Peak(), b.Stamp())
	}
	row := ledger.Row{}
	for version := range 3 {
		if a.Held(version) != b.Held(version) || !slices.Equal(a.Spans(version), b.Spans(version)) {
			t.Fatalf("the ground: version %d: %d, %v, not %d, %v", version, a.Held(version), a.Spans(version), b.Held(version), b.Spans(version))
		}
		row[version] = b.Held(version)
	}
	if a.Times(row) != b.Times(row) {
		t.Fatalf("the ground: %v was %d times, not %d", row, a.Times(row), b.Times(row))
	}
	for page := range a.Pages() {
		got, ok := a.At(256 * page)
		want, there := b.At(256 * page)
		if got != want || ok != there || a.Len(page) != b.Len(page) {
			t.Fatalf("the ground: page %d: %v, %v, a span of %d, not %v, %v, %d", page, got, ok, a.Len(page), want, there, b.Len(page))
		}
	}
}

// sameSlab: Slab of a page tells what the chapter asks.
func (x pair) sameSlab(t *testing.T, page int) {
	t.Helper()
	got, want := x.h.Slab(page), x.p.slabs[page]
	if got == nil || want == nil {
		if got != nil || want != nil {
			t.Fatalf("Slab(%d): %v, not %v", page, got, want)
		}
		return
	}
	if got.Base() != 256*page || got.Class() != want.class || !slices.Equal(got.Taken(), want.slots()) {
		t.Fatalf("Slab(%d): base %d, class %d, taken %v, not %+v", page, got.Base(), got.Class(), got.Taken(), want)
	}
}

// samePlaces: Find and Has of the addresses are as the chapter asks.
func (x pair) samePlaces(t *testing.T, addresses ...int) {
	t.Helper()
	for _, at := range addresses {
		want, wantE := x.p.find(at)
		if got, errno := x.h.Find(at); got != want || errno != wantE {
			t.Fatalf("Find(%d): %v, %v, not %v, %v", at, got, errno, want, wantE)
		}
		if got, want := x.h.Has(at), x.p.has(at); got != want {
			t.Fatalf("Has(%d): %v, not %v", at, got, want)
		}
	}
}

// wantLists: the pages of a class's lists, in the order of the constants.
func (x pair) wantLists(t *testing.T, class int, lists ...[]int) {
	t.Helper()
	for list, want := range lists {
		if got := x.h.List(class, list); !slices.Equal(got, want) {
			t.Errorf("List(%d, %d): %v, not %v", class, list, got, want)
		}
	}
}

// wantTake: Take of a class answers this address.
func (x pair) wantTake(t *testing.T, class int, wants ...int) {
	t.Helper()
	for _, want := range wants {
		x.p.take(class)
		if at, errno := x.h.Take(class); at != want || errno != api.OK {
			t.Errorf("Take(%d): %d, %v, not %d", class, at, errno, want)
		}
	}
	x.same(t)
}

// wantEntry: the span of a page has this entry, on all its pages.
func (x pair) wantEntry(t *testing.T, page, class, state int) {
	t.Helper()
	want := radix.Entry{Span: page, Version: 0, Class: class, State: state}
	for k := range 4 {
		if got, ok := x.g.At(256 * (page + k)); got != want || !ok {
			t.Errorf("the entry of page %d: %v, %v, not %v", page+k, got, ok, want)
		}
	}
}

// wantClosed: no span has the pages from there on.
func (x pair) wantClosed(t *testing.T, page int) {
	t.Helper()
	for k := range 4 {
		if e, ok := x.g.At(256 * (page + k)); ok || x.g.Len(page+k) != 0 {
			t.Errorf("page %d has the entry %v", page+k, e)
		}
	}
}

func counted(n int) []int {
	var list []int
	for k := range n {
		list = append(list, k)
	}
	return list
}

// hostileInts: numbers at which a class, a list, a page, a number of slots or an address may go wrong.
func hostileInts() []int {
	list := []int{math.MinInt, math.MinInt + 1, math.MaxInt - 1, math.MaxInt, 0x5555555555555555, -0x5555555555555556, 1000, 9999}
	for k := range 63 {
		list = append(list, 1<<k, -1<<k, 1<<k-1, 1<<k+1)
	}
	for d := -4; d <= 4; d++ {
		list = append(list, d, 16+d, 64+d, 512+d, 1024+d, 1536+d, 4096+d, 1048576+d, 1<<32+d, 1<<32+1024+d, 1<<56+4+d, 1<<62+d, math.MinInt+1024+d)
	}
	return list
}

// wrongClasses: classes that there aren't; times four some of them are 0 or a small number.
func wrongClasses() []int {
	return []int{-1, 16, 17, -2, -4, 63, 64, 256, 1 << 32, 1 << 62, 1<<62 + 1, -1 << 62, math.MinInt, math.MinInt + 3, math.MaxInt}
}

// picks: numbers below n by a rule without order to be seen.
type picks uint64

func (p *picks) below(n int) int {
	*p = *p*6364136223846793005 + 1442695040888963407
	return int(uint64(*p) >> 33 % uint64(n))
}

// P14: the constants, as the chapter tells them.
func TestConstants(t *testing.T) {
	if LPartial != 0 || LFull != 1 || LEmpty != 2 || LSealed != 3 {
		t.Error(LPartial, LFull, LEmpty, LSealed)
	}
}

// P14.1: New, on grounds of no page, of few and of all: no slab, and the ground stays as it is.
func TestNew(t *testing.T) {
	for _, pages := range []int{0, 1, 3, 4, 5, 16, 4095, 4096} {
		x := made(t, pages)
		if x.g.Free() != pages || x.g.Stamp() != 0 || len(x.h.Pages()) != 0 || len(x.h.Taken()) != 0 {
			t.Errorf("%d pages: %d free, %v, %v", pages, x.g.Free(), x.h.Pages(), x.h.Taken())
		}
		for page := -4; page < 20; page++ {
			x.sameSlab(t, page)
		}
	}
}

// P14.1: two heaps on two grounds have slabs of their own; so have two on one ground.
func TestNewApart(t *testing.T) {
	a, b := made(t, 16), made(t, 16)
	a.each(t, take(15), take(15), take(0))
	b.same(t)
	b.each(t, some(3, 30), give(0))
	a.same(t)
	second := New(a.g)
	if len(second.Pages()) != 0 || second.Ready(0) || second.Has(0) || second.Give(0) != api.ErrPointer || second.Seal(0) != api.ErrNone {
		t.Errorf("the other heap has %v", second.Pages())
	}
	if at, errno := second.Take(0); at != 2048 || errno != api.OK {
		t.Errorf("the other heap's Take: %d, %v", at, errno)
	}
	if a.h.Has(2048) || !slices.Equal(a.h.Pages(), []int{0, 4}) || !slices.Equal(second.Pages(), []int{8}) {
		t.Errorf("%v and %v", a.h.Pages(), second.Pages())
	}
}

// P14.1, P14.2: the chapter's examples.
func TestExample(t *testing.T) {
	x := made(t, 16)
	x.wantTake(t, 15, 0, 512, 1024)
	x.wantLists(t, 15, []int{4}, []int{0}, nil, nil)
	x.apply(t, give(0))
	x.wantLists(t, 15, []int{0, 4}, nil, nil, nil)
	x.apply(t, give(512))
	x.wantLists(t, 15, []int{4}, nil, []int{0}, nil)
	x.apply(t, give(1024))
	x.wantLists(t, 15, nil, nil, []int{0}, nil)
	x.wantClosed(t, 4)
	x.wantEntry(t, 0, 15, 0)
}

// P14.1: Take of each class until there is no memory any more: slot by slot, slab by slab.
func TestTakeOfEachClass(t *testing.T) {
	for class, size := range classSizes() {
		x := made(t, 15)
		for _, page := range []int{0, 4, 8} {
			for slot := range 1024 / size {
				x.wantTake(t, class, 256*page+slot*size)
				x.wantEntry(t, page, class, 0)
			}
		}
		x.wantLists(t, class, nil, []int{8, 4, 0}, nil, nil)
		for range 2 {
			if at, errno := x.h.Take(class); at != -1 || errno != api.ErrMemory {
				t.Errorf("Take(%d): %d, %v", class, at, errno)
			}
			x.same(t)
		}
	}
}

// P14.1: a class that there isn't is ErrRange, of Take and of Some, with slabs and without any.
func TestTakeOfNoClass(t *testing.T) {
	for _, calls := range [][]call{nil, {take(0), take(15), some(1, 70)}} {
		x := made(t, 64, calls...)
		for _, class := range wrongClasses() {
			if at, errno := x.h.Take(class); at != -1 || errno != api.ErrRange {
				t.Errorf("Take(%d): %d, %v", class, at, errno)
			}
			for _, n := range []int{-1, 0, 1, 2, math.MaxInt, math.MinInt} {
				if list, errno := x.h.Some(class, n); len(list) != 0 || errno != api.ErrRange {
					t.Errorf("Some(%d, %d): %v, %v", class, n, list, errno)
				}
			}
			if x.h.Ready(class) {
				t.Errorf("Ready(%d)", class)
			}
		}
		x.same(t)
	}
}

// P14.1: from the first slab of LPartial, though others stand behind it, and though LEmpty has one, and there is memory.
func TestTakeFromPartial(t *testing.T) {
	x := made(t, 32, some(14, 6), give(0), give(1024+448), give(2048), give(2048+448))
	x.wantLists(t, 14, []int{4, 0}, nil, []int{8}, nil)
	x.wantTake(t, 14, 1024+448)
	x.wantLists(t, 14, []int{0}, []int{4}, []int{8}, nil)
	x.wantTake(t, 14, 0)
	x.wantLists(t, 14, nil, []int{0, 4}, []int{8}, nil)
}

// P14.1: from LEmpty where LPartial is empty, of several the first one; it leaves LEmpty and comes to the front of LPartial.
func TestTakeFromEmpty(t *testing.T) {
	x := made(t, 32, some(13, 6), leave(0), leave(4), join(0, 13), join(4, 13))
	x.wantLists(t, 13, nil, []int{8}, []int{4, 0}, nil)
	x.wantTake(t, 13, 1024)
	x.wantLists(t, 13, []int{4}, []int{8}, []int{0}, nil)
	x.wantTake(t, 13, 1024+384)
	x.wantLists(t, 13, nil, []int{4, 8}, []int{0}, nil)
	x.wantTake(t, 13, 0, 384)
	x.wantLists(t, 13, nil, []int{0, 4, 8}, nil, nil)
	x.wantTake(t, 13, 3072)
	x.wantLists(t, 13, []int{12}, []int{0, 4, 8}, nil, nil)
}

// P14.1: a slab that stays partial keeps its place in LPartial, where a slab of another list came before it, and where none did.
func TestTakeKeepsThePlace(t *testing.T) {
	x := made(t, 16, some(12, 9))
	x.wantLists(t, 12, nil, []int{8, 4, 0}, nil, nil)
	x.each(t, give(320), give(0), give(1024), give(1344))
	x.wantLists(t, 12, []int{4, 0}, []int{8}, nil, nil)
	x.each(t, give(640))
	x.wantLists(t, 12, []int{4}, []int{8}, []int{0}, nil)
	x = made(t, 16, some(12, 9), give(320), give(0), give(1024), give(1344), give(2048))
	x.wantLists(t, 12, []int{8, 4, 0}, nil, nil, nil)
	x.wantTake(t, 12, 2048, 1024)
	x.wantLists(t, 12, []int{4, 0}, []int{8}, nil, nil)
	x.wantTake(t, 12, 1344, 0)
	x.wantLists(t, 12, []int{0}, []int{4, 8}, nil, nil)
}

// P14.1: nothing is taken from a sealed slab, nor from one that has left, nor from one of another class.
func TestTakeFromNoOther(t *testing.T) {
	x := made(t, 20, take(9), seal(0), take(9), leave(4), take(10))
	x.wantTake(t, 9, 3072)
	x.wantLists(t, 9, []int{12}, nil, nil, []int{0})
	x.apply(t, unseal(0))
	x.wantTake(t, 9, 192)
}

// P14.1: a span is opened where it has 4 pages from a multiple of 4 on, where somebody else has spans, too; where there is none: ErrMemory, and nothing changes.
func TestTakeBesideOthers(t *testing.T) {
	for pages := range 24 {
		for n := range 20 {
			x := made(t, pages, elseOpens(n))
			x.each(t, take(4), take(15), some(4, 30), take(0))
		}
	}
	x := made(t, 12, elseOpens(5))
	x.wantTake(t, 15, 2048, 2560)
	x.each(t, take(15), take(0), some(0, 3), elseCloses(0))
	x.wantTake(t, 15, 0)
}

// P14.1, P1: grounds of which no span of 4 pages may be taken: all calls answer, and nothing changes.
func TestWithoutMemory(t *testing.T) {
	for _, pages := range []int{0, 1, 2, 3} {
		x := made(t, pages)
		for class := range 16 {
			x.each(t, take(class), some(class, 1), some(class, 9), some(class, math.MaxInt))
		}
		x.each(t, give(0), give(-1), seal(0), unseal(0), leave(0), join(0, 5), join(4092, 0, 1))
		if x.g.Stamp() != 0 {
			t.Errorf("the stamp is %d", x.g.Stamp())
		}
	}
	for _, pages := range []int{4, 5, 6, 7} {
		x := made(t, pages)
		x.wantTake(t, 15, 0, 512)
		x.each(t, take(15), take(14), give(0), give(512), take(14), take(15), seal(0), give(0), give(512))
		x.wantTake(t, 14, 0)
	}
}

// P14.1: Some of no slots, of a number below 0, of one, of several within a slab and over more than one, of all, and of more than there is memory for.
func TestSome(t *testing.T) {
	for class, size := range classSizes() {
		slots := 1024 / size
		for _, n := range []int{math.MinInt, -1, 0, 1, 2, slots - 1, slots, slots + 1, 2*slots + 1, 3 * slots, 3*slots + 1, 1000, math.MaxInt} {
			x := made(t, 14, some(class, n), some(class, n), give(0), some(class, n), some(class, 1))
			x.each(t, some(class, n), take(class))
		}
	}
}

// P14.1: Some, written out: through LPartial's slabs in order, then LEmpty's, then new ones, till memory ends.
func TestSomeWrittenOut(t *testing.T) {
	x := made(t, 18, some(15, 6), give(0), give(1536), give(2048), give(2560))
	x.wantLists(t, 15, []int{4, 0}, nil, []int{8}, nil)
	for _, s := range []struct {
		n     int
		want  []int
		errno api.Errno
	}{
		{0, nil, api.ErrRange}, {-1, nil, api.ErrRange}, {math.MinInt, nil, api.ErrRange},
		{1, []int{1536}, api.OK},
		{4, []int{0, 2048, 2560, 3072}, api.OK},
		{9, []int{3584}, api.OK},
		{1, nil, api.ErrMemory}, {math.MaxInt, nil, api.ErrMemory},
		{0, nil, api.ErrRange},
	} {
		x.p.some(15, s.n)
		if got, errno := x.h.Some(15, s.n); !slices.Equal(got, s.want) || errno != s.errno {
			t.Errorf("Some(15, %d): %v, %v, not %v, %v", s.n, got, errno, s.want, s.errno)
		}
		x.same(t)
	}
}

// P14.2: Give of an address in no slab: below 0, beyond the memory, in no span, in somebody else's, in a slab that left, in one that was closed.
func TestGiveOutsideOfSlabs(t *testing.T) {
	x := made(t, 20, some(11, 9), elseOpens(4), leave(4), give(2048))
	x.wantLists(t, 11, nil, []int{0}, []int{8}, nil)
	for _, at := range []int{-1, -16, -1024, -256, 1024, 1280, 2047, 3072, 3328, 4096, 5119, 5120, 1 << 20, math.MinInt, math.MinInt + 1024, math.MaxInt, 1 << 32, 1<<32 + 256} {
		if errno := x.h.Give(at); errno != api.ErrPointer {
			t.Errorf("Give(%d): %v", at, errno)
		}
		if p, errno := x.h.Find(at); p != (tags.Place{}) || errno != api.ErrPointer || x.h.Has(at) {
			t.Errorf("Find(%d): %v, %v", at, p, errno)
		}
		x.same(t)
	}
	x.each(t, seal(8), give(2048))
}

// P14.2: Give of every address of a slab and around it, of slabs that are empty, partial and full, and sealed.
func TestGiveOfEveryAddress(t *testing.T) {
	for _, class := range []int{0, 8, 12, 15} {
		slots := 1024 / classSizes()[class]
		for _, calls := range [][]call{{join(4, class)}, {join(4, class, 1)}, {join(4, class, counted(slots)...)}, {join(4, class, 0, 1), seal(4)}} {
			for at := 1000; at < 2080; at++ {
				x := made(t, 16, append([]call{elseOpens(4), elseOpens(4)}, calls...)...)
				x.samePlaces(t, at)
				x.each(t, give(at), give(at))
			}
		}
	}
}

// P14.2: Give, written out: within a slot, behind the last one, free, of a full slab, of a partial one.
func TestGiveWrittenOut(t *testing.T) {
	x := made(t, 16, some(8, 8))
	x.wantLists(t, 8, []int{4}, []int{0}, nil, nil)
	for _, s := range []struct {
		at            int
		errno         api.Errno
		partial, full []int
	}{
		{1, api.ErrPointer, []int{4}, []int{0}},
		{159, api.ErrPointer, []int{4}, []int{0}},
		{960, api.ErrPointer, []int{4}, []int{0}},
		{1023, api.ErrPointer, []int{4}, []int{0}},
		{1344, api.ErrTwice, []int{4}, []int{0}},
		{1984, api.ErrPointer, []int{4}, []int{0}},
		{800, api.OK, []int{0, 4}, nil},
		{800, api.ErrTwice, []int{0, 4}, nil},
		{1184, api.OK, []int{0, 4}, nil},
		{0, api.OK, []int{0, 4}, nil},
	} {
		x.p.give(s.at)
		if errno := x.h.Give(s.at); errno != s.errno {
			t.Errorf("Give(%d): %v, not %v", s.at, errno, s.errno)
		}
		x.wantLists(t, 8, s.partial, s.full, nil, nil)
		x.same(t)
	}
}

// P14.2: a partial slab that stays partial keeps its place, wherever it stands; one that was full comes to the front.
func TestGiveKeepsThePlace(t *testing.T) {
	x := made(t, 16, some(12, 9), give(2048), give(1024), give(0))
	x.wantLists(t, 12, []int{0, 4, 8}, nil, nil, nil)
	for _, at := range []int{2368, 1344, 320} {
		x.apply(t, give(at))
		x.wantLists(t, 12, []int{0, 4, 8}, nil, nil, nil)
	}
	x.apply(t, give(1664))
	x.wantLists(t, 12, []int{0, 8}, nil, []int{4}, nil)
}

// P14.2: the last taken slot of a slab: where LEmpty is empty it comes there; where it isn't it is closed; LEmpty of another class doesn't matter.
func TestGiveOfTheLast(t *testing.T) {
	x := made(t, 16, take(3), take(7), give(0), take(7), give(1024), give(1152))
	x.wantLists(t, 3, nil, nil, []int{0}, nil)
	x.wantLists(t, 7, nil, nil, []int{4}, nil)
	x.wantEntry(t, 0, 3, 0)
	x.wantEntry(t, 4, 7, 0)
	x.each(t, join(0, 3, 1), elseOpens(4), join(8, 3, 5), give(2048+5*64))
	x.wantLists(t, 3, nil, nil, []int{0}, nil)
	x.wantClosed(t, 8)
	x.each(t, take(3), give(0))
	x.wantLists(t, 3, nil, nil, []int{0}, nil)
}

// P14.2: of a sealed slab: it stays in LSealed, and keeps its place there, until its last taken slot is free; then it is closed, whether LEmpty has one or not.
func TestGiveOfSealed(t *testing.T) {
	for _, empty := range []bool{false, true} {
		x := made(t, 24, some(15, 6), seal(0), seal(4), seal(8))
		var none []int
		if empty {
			x.each(t, take(15), give(3072))
			none = []int{12}
		}
		x.wantLists(t, 15, nil, nil, none, []int{8, 4, 0})
		x.apply(t, give(1024))
		x.wantLists(t, 15, nil, nil, none, []int{8, 4, 0})
		x.wantEntry(t, 4, 15, 1)
		x.apply(t, give(1536))
		x.wantLists(t, 15, nil, nil, none, []int{8, 0})
		x.wantClosed(t, 4)
		x.each(t, give(0), give(512))
		x.wantLists(t, 15, nil, nil, none, []int{8})
		x.wantClosed(t, 0)
		x.each(t, give(1536), give(512), unseal(8), give(2048), give(2560))
	}
}

// P14.2: Find and Has of the first and the last slot of a slab, taken and free, and of addresses at which none begins, of each class.
func TestFind(t *testing.T) {
	for class, size := range classSizes() {
		slots := 1024 / size
		x := made(t, 12, elseOpens(4), join(0, class, 0), elseOpens(4), join(4, class, slots-1), seal(4))
		for at := -100; at < 3200; at++ {
			x.samePlaces(t, at)
		}
		for slot := range slots {
			want := tags.Place{Page: 4, Slot: slot}
			at := 1024 + slot*size
			if p, errno := x.h.Find(at); p != want || errno != api.OK || x.h.Has(at) != (slot == slots-1) {
				t.Errorf("class %d: Find(%d): %v, %v, %v", class, at, p, errno, x.h.Has(at))
			}
		}
		x.samePlaces(t, hostileInts()...)
	}
}

// P14.2: Has, written out: of a taken slot, of a free one and of neither.
func TestHas(t *testing.T) {
	x := made(t, 12, take(8), some(8, 2), give(160))
	for at, want := range map[int]bool{0: true, 160: false, 320: true, 480: false, 321: false, 960: false, 1024: false, -1: false, -160: false, 4096: false, math.MinInt: false, math.MaxInt: false} {
		if got := x.h.Has(at); got != want {
			t.Errorf("Has(%d): %v", at, got)
		}
	}
}

// P14.2: Ready with a slab in LPartial, in LEmpty alone, in LFull alone, in LSealed alone, and with none.
func TestReady(t *testing.T) {
	for _, s := range []struct {
		calls []call
		want  bool
	}{
		{nil, false},
		{[]call{take(15)}, true},
		{[]call{take(15), give(0)}, true},
		{[]call{some(15, 2)}, false},
		{[]call{take(15), seal(0)}, false},
		{[]call{take(15), leave(0)}, false},
		{[]call{take(14)}, false},
		{[]call{some(15, 3)}, true},
		{[]call{take(15), give(0), seal(0)}, false},
	} {
		x := made(t, 8, s.calls...)
		if got := x.h.Ready(15); got != s.want {
			t.Errorf("%v: %v", s.calls, got)
		}
		for _, class := range wrongClasses() {
			if x.h.Ready(class) {
				t.Errorf("%v: Ready(%d)", s.calls, class)
			}
		}
	}
}

// noPages: pages that are none of a slab's, where slabs begin at 0, 4 and 8 of 20, and somebody else has 12 to 15.
func noPages() []int {
	return []int{-1, -4, 1, 2, 3, 5, 7, 9, 11, 12, 13, 16, 19, 20, 24, 4096, 1 << 32, 1<<32 + 4, 1 << 62, math.MinInt, math.MinInt + 4, math.MaxInt, 1024, 256}
}

// P14.3, P14.4, P14.5: Seal, Unseal, Leave and Slab of what is no slab's page, or within a slab: ErrNone, nil, and nothing changes.
func TestOfNoSlab(t *testing.T) {
	x := made(t, 20, take(1), some(15, 4), give(2048), seal(4), elseOpens(4))
	if !slices.Equal(x.h.Pages(), []int{0, 4, 8}) {
		t.Fatal(x.h.Pages())
	}
	for _, page := range noPages() {
		if errno := x.h.Seal(page); errno != api.ErrNone {
			t.Errorf("Seal(%d): %v", page, errno)
		}
		if errno := x.h.Unseal(page); errno != api.ErrNone {
			t.Errorf("Unseal(%d): %v", page, errno)
		}
		if s, errno := x.h.Leave(page); s != nil || errno != api.ErrNone {
			t.Errorf("Leave(%d): %v, %v", page, s, errno)
		}
		if s := x.h.Slab(page); s != nil {
			t.Errorf("Slab(%d): %v", page, s)
		}
		x.same(t)
	}
}

// P14.3: Seal of an empty slab, of a partial and of a full one, and of a sealed one; what the entries say behind it.
func TestSeal(t *testing.T) {
	x := made(t, 16, some(15, 5), give(1024), give(1536))
	x.wantLists(t, 15, []int{8}, []int{0}, []int{4}, nil)
	x.apply(t, seal(4))
	x.wantLists(t, 15, []int{8}, []int{0}, nil, nil)
	x.wantClosed(t, 4)
	x.apply(t, seal(4))
	for k, page := range []int{8, 0} {
		x.apply(t, seal(page))
		x.wantEntry(t, page, 15, 1)
		stamp := x.g.Stamp()
		if errno := x.h.Seal(page); errno != api.ErrState || x.g.Stamp() != stamp {
			t.Errorf("Seal(%d) twice: %v", page, errno)
		}
		x.same(t)
		x.wantLists(t, 15, nil, [][]int{{0}, nil}[k], nil, [][]int{{8}, {0, 8}}[k])
	}
}

// P14.3: Unseal of one that isn't sealed, empty, partial and full; of a sealed one, partial and full, which comes to the front; what the entries say behind it.
func TestUnseal(t *testing.T) {
	x := made(t, 24, some(15, 10), give(0), give(3072), give(3584))
	x.wantLists(t, 15, []int{0}, []int{16, 8, 4}, []int{12}, nil)
	for _, page := range []int{0, 4, 8, 12, 16} {
		if errno := x.h.Unseal(page); errno != api.ErrState {
			t.Errorf("Unseal(%d): %v", page, errno)
		}
		x.same(t)
	}
	x.each(t, seal(4), seal(8), seal(0), give(2048))
	x.wantLists(t, 15, nil, []int{16}, []int{12}, []int{0, 8, 4})
	x.apply(t, unseal(0))
	x.wantLists(t, 15, []int{0}, []int{16}, []int{12}, []int{8, 4})
	x.wantEntry(t, 0, 15, 0)
	x.apply(t, unseal(8))
	x.wantLists(t, 15, []int{8, 0}, []int{16}, []int{12}, []int{4})
	x.wantEntry(t, 8, 15, 0)
	x.wantEntry(t, 4, 15, 1)
	x.apply(t, unseal(4))
	x.wantLists(t, 15, []int{8, 0}, []int{4, 16}, []int{12}, nil)
	x.wantEntry(t, 4, 15, 0)
	x.each(t, unseal(4), unseal(8), take(15), take(15))
}

// P14.4: Leave of a slab in each list: it is that slab; the span and its entries stay, the sealed one's too.
func TestLeave(t *testing.T) {
	for _, s := range []struct {
		calls []call
		list  int
		taken []int
	}{
		{[]call{take(15)}, 0, []int{0}},
		{[]call{some(15, 2)}, 1, []int{0, 1}},
		{[]call{take(15), give(0)}, 2, nil},
		{[]call{some(15, 2), give(0), seal(0)}, 3, []int{1}},
	} {
		x := made(t, 16, s.calls...)
		if got := x.h.List(15, s.list); !slices.Equal(got, []int{0}) {
			t.Fatal(got)
		}
		stamp := x.g.Stamp()
		slab, errno := x.h.Leave(0)
		if slab == nil || errno != api.OK || slab.Base() != 0 || slab.Class() != 15 || !slices.Equal(slab.Taken(), s.taken) {
			t.Fatalf("Leave: %v, %v", slab, errno)
		}
		x.p.leave(0)
		x.same(t)
		x.wantLists(t, 15, nil, nil, nil, nil)
		state := 0
		if s.list == 3 {
			state = 1
		}
		x.wantEntry(t, 0, 15, state)
		if x.g.Stamp() != stamp || x.g.Len(0) != 4 {
			t.Errorf("the span is of %d, the stamp %d", x.g.Len(0), x.g.Stamp())
		}
		x.each(t, leave(0), seal(0), unseal(0), give(0), give(512), take(15), elseCloses(0))
	}
}

// P14.4: a slab that has left is out of the heap's hands, until it joins again: as it is by then.
func TestLeaveAndJoin(t *testing.T) {
	x := made(t, 16, some(14, 4), seal(0))
	slab, errno := x.h.Leave(0)
	if slab == nil || errno != api.OK {
		t.Fatal(errno)
	}
	x.p.leave(0)
	if errno := slab.GiveAll(0, 448); errno != api.OK {
		t.Fatal(errno)
	}
	x.same(t)
	if errno := x.h.Join(slab); errno != api.OK {
		t.Fatal(errno)
	}
	x.p.join(0, newSlab(14))
	x.same(t)
	x.wantLists(t, 14, nil, []int{4}, []int{0}, nil)
	x.wantEntry(t, 0, 14, 0)
	again, errno := x.h.Leave(0)
	if again != slab || errno != api.OK {
		t.Errorf("Leave: another slab, or %v", errno)
	}
	x.p.leave(0)
	x.each(t, join(0, 14), take(14))
}

// P14.4: Join of an empty slab, of a partial and of a full one, to the front of its list, of each class; the span's version, class and state are marked.
func TestJoin(t *testing.T) {
	for class, size := range classSizes() {
		slots := 1024 / size
		for list, taken := range [][]int{{slots - 1}, counted(slots), nil} {
			x := made(t, 24, elseOpens(4), join(0, class, taken...), elseOpens(4), join(4, class, taken...))
			if got := x.h.List(class, list); !slices.Equal(got, []int{4, 0}) {
				t.Errorf("List(%d, %d): %v", class, list, got)
			}
			x.wantEntry(t, 0, class, 0)
			x.wantEntry(t, 4, class, 0)
			if x.g.Held(0) != 8 || x.g.Held(2) != 0 {
				t.Errorf("held: %d and %d", x.g.Held(0), x.g.Held(2))
			}
			x.each(t, take(class), give(0), give(1024), seal(0), some(class, slots+1))
		}
	}
}

// P14.4: Join of the slab of a page that the heap has: ErrThere, also where it is the same slab, and where it is sealed; of one of whose page no span of 4 pages begins: ErrState.
func TestJoinErrors(t *testing.T) {
	x := made(t, 32, take(7), some(15, 2), seal(4), elseOpens(3), elseOpens(5), elseOpens(8))
	if got := x.g.Spans(2); !slices.Equal(got, []int{8, 11, 16}) {
		t.Fatal(got)
	}
	for page, want := range map[int]api.Errno{0: api.ErrThere, 4: api.ErrThere, 8: api.ErrState, 12: api.ErrState, 16: api.ErrState, 20: api.ErrState, 24: api.ErrState, 28: api.ErrState, 32: api.ErrState, 36: api.ErrState, 4092: api.ErrState} {
		for _, class := range []int{0, 7, 15} {
			for _, taken := range [][]int{nil, {1}, {0, 1}} {
				s, _ := oldslab.With(256*page, class, taken)
				if errno := x.h.Join(s); errno != want {
					t.Errorf("Join of page %d: %v, not %v", page, errno, want)
				}
				x.same(t)
			}
		}
	}
	y := made(t, 16, elseOpens(4))
	s, _ := oldslab.With(0, 9, []int{2})
	if errno := y.h.Join(s); errno != api.OK {
		t.Fatal(errno)
	}
	if errno := y.h.Join(s); errno != api.ErrThere {
		t.Errorf("Join twice: %v", errno)
	}
	y.p.join(0, newSlab(9, 2))
	y.same(t)
	y.each(t, give(2*192), join(0, 9), seal(0), join(0, 9))
}

// P14.4: a slab of another class than that of its span before, which was sealed, joins: the entries tell its own.
func TestJoinOfAnotherClass(t *testing.T) {
	x := made(t, 16, some(15, 3), seal(4), leave(4), join(4, 2, 3, 20), take(15), take(2))
	x.wantEntry(t, 4, 2, 0)
	x.wantLists(t, 2, []int{4}, nil, nil, nil)
	x.wantLists(t, 15, []int{8}, []int{0}, nil, nil)
	if errno := x.g.Mark(4, 1, 3, 1); errno != api.OK {
		t.Fatal(errno)
	}
	x.p.ground.Mark(4, 1, 3, 1)
	x.each(t, leave(4), join(4, 5, 1))
	x.wantEntry(t, 4, 5, 0)
	if x.g.Held(1) != 0 || x.g.Held(0) != 12 {
		t.Errorf("held: %d and %d", x.g.Held(0), x.g.Held(1))
	}
}

// P14.5: List of lists and of classes that there aren't, with slabs in all lists of the classes beside them.
func TestListOfNone(t *testing.T) {
	var calls []call
	for class := range 16 {
		for list, taken := range [][]int{{0}, {0, 1}, nil, {1}} {
			page := 16*class + 4*list
			calls = append(calls, elseOpens(4))
			if list == 1 {
				taken = counted(1024 / classSizes()[class])
			}
			calls = append(calls, join(page, class, taken...))
			if list == 3 {
				calls = append(calls, seal(page))
			}
		}
	}
	x := made(t, 256, calls...)
	for class := range 16 {
		for list := range 4 {
			if got := x.h.List(class, list); !slices.Equal(got, []int{16*class + 4*list}) {
				t.Errorf("List(%d, %d): %v", class, list, got)
			}
		}
		for _, list := range []int{-1, 4, 5, -4, 7, 64, 1 << 32, math.MinInt, math.MaxInt, math.MaxInt - 3} {
			if got := x.h.List(class, list); len(got) != 0 {
				t.Errorf("List(%d, %d): %v", class, list, got)
			}
		}
	}
	for _, class := range wrongClasses() {
		for list := -5; list < 9; list++ {
			if got := x.h.List(class, list); len(got) != 0 {
				t.Errorf("List(%d, %d): %v", class, list, got)
			}
		}
	}
}

// P14.5: Pages and Taken with no slab, one and several, rising, whatever their classes, and in whatever order they came.
func TestPagesAndTaken(t *testing.T) {
	x := made(t, 24)
	want := func(pages, taken []int) {
		t.Helper()
		if got := x.h.Pages(); !slices.Equal(got, pages) {
			t.Errorf("Pages: %v, not %v", got, pages)
		}
		if got := x.h.Taken(); !slices.Equal(got, taken) {
			t.Errorf("Taken: %v, not %v", got, taken)
		}
	}
	want(nil, nil)
	x.each(t, some(15, 3))
	want([]int{0, 4}, []int{0, 512, 1024})
	x.each(t, leave(0), some(8, 2), join(0, 11, 3, 1), seal(4))
	want([]int{0, 4, 8}, []int{256, 768, 1024, 2048, 2208})
	x.each(t, give(2048), give(2208))
	want([]int{0, 4, 8}, []int{256, 768, 1024})
	x.each(t, give(1024), give(768), give(256))
	want([]int{0, 8}, nil)
	x.each(t, seal(0), leave(8))
	want(nil, nil)
}

// P14.5: a slab that is answered is another one: what changes it doesn't change the heap, nor the other way round.
func TestSlab(t *testing.T) {
	for class := range 16 {
		x := made(t, 16, take(class), take(class))
		s := x.h.Slab(0)
		if s == nil || s.Base() != 0 || s.Class() != class || !slices.Equal(s.Taken(), []int{0, 1}) {
			t.Fatal(class)
		}
		if errno := s.GiveAll(0, classSizes()[class]); errno != api.OK {
			t.Fatal(errno)
		}
		x.same(t)
		s.Some(64)
		x.same(t)
		other := x.h.Slab(0)
		x.each(t, give(0), take(class), give(classSizes()[class]), seal(0))
		if !slices.Equal(other.Taken(), []int{0, 1}) || s.State() != oldslab.SFull {
			t.Errorf("class %d: the slab that was answered: %v", class, other.Taken())
		}
	}
}

// P14.5: what is answered may be changed, spare room too, without a change of the heap or of another answer.
func TestAnswersAreNew(t *testing.T) {
	x := made(t, 24, some(13, 7), seal(4))
	answers := func() [][]int {
		return [][]int{x.h.List(13, 0), x.h.List(13, 1), x.h.List(13, 3), x.h.Pages(), x.h.Taken()}
	}
	first, second := answers(), answers()
	for k, list := range first {
		kept := slices.Clone(list)
		spoil(list)
		if !slices.Equal(second[k], kept) {
			t.Errorf("the other answer %d is %v, not %v", k, second[k], kept)
		}
	}
	x.same(t)
	a, _ := x.h.Some(13, 2)
	b, _ := x.h.Some(13, 2)
	x.p.some(13, 4)
	spoil(a)
	if !slices.Equal(b, []int{4096 + 384, 5120}) {
		t.Errorf("the other answer is %v", b)
	}
	x.same(t)
}

// spoil writes all that a list's memory holds.
func spoil(list []int) {
	room := list[:cap(list)]
	for k := range room {
		room[k] = -99
	}
}

// P14: no call changes a byte of the memory.
func TestMemoryStays(t *testing.T) {
	x := made(t, 16)
	for at := range 4096 {
		x.g.Cells().Store(at, 1, uint64(at*7+1)&255)
	}
	before := x.g.Clone()
	x.each(t, some(15, 5), take(0), give(0), give(512), seal(4), unseal(4), give(1024), seal(0), give(2048), leave(12), join(12, 3), take(3))
	if list := x.g.Cells().Differ(before.Cells()); len(list) != 0 {
		t.Errorf("the memory differs: %v", list)
	}
}

// P14.1 to P14.5: every row of up to four calls on three slabs of two slots; Join and the others' calls are among them.
func TestEveryRowOfCalls(t *testing.T) {
	walk(t, 4, 12, []call{some(15, 3)}, []call{
		take(15), some(15, 3), give(0), give(512), give(1024), give(2048), seal(0), seal(4), unseal(0), unseal(4), leave(4), join(4, 15, 0), join(4, 15),
	})
	walk(t, 3, 12, []call{some(15, 4), take(14)}, []call{
		take(15), take(14), some(14, 9), give(0), give(512), give(1024), give(1536), give(2048), seal(0), seal(8), unseal(0), unseal(8), leave(0), leave(4), join(0, 15, 1), join(4, 14, 0, 1), elseOpens(4),
	})
}

// walk: each row of up to so many of the calls, behind the first ones, on heaps made anew.
func walk(t *testing.T, depth, pages int, row, calls []call) {
	t.Helper()
	made(t, pages, row...)
	if depth == 0 {
		return
	}
	for _, c := range calls {
		walk(t, depth-1, pages, append(slices.Clone(row), c), calls)
	}
}

// P14.1 to P14.5: many changes, by calls without an order to be seen, some of which are wrong, on grounds with room and without.
func TestManyChanges(t *testing.T) {
	var pick picks
	for _, pages := range []int{4, 9, 16, 40, 133} {
		for range 6 {
			x := made(t, pages)
			first := pick.below(14)
			for range 500 {
				x.apply(t, picked(&pick, x.p, first))
			}
		}
	}
}

// picked: a call of any kind; most classes are one of three, most pages slabs', most addresses taken slots'.
func picked(pick *picks, p *plain, first int) call {
	class := first + pick.below(3)
	switch pick.below(16) {
	case 0, 1, 2:
		return take(class)
	case 3, 4:
		return some(class, pick.below(12)-1)
	case 5, 6, 7, 8, 9, 10:
		return give(pickedAddress(pick, p))
	case 11:
		return seal(pickedPage(pick, p))
	case 12:
		return unseal(pickedPage(pick, p))
	case 13:
		return leave(pickedPage(pick, p))
	case 14:
		return pickedJoin(pick, p, class)
	default:
		return elseOpens(pick.below(6))
	}
}

func pickedAddress(pick *picks, p *plain) int {
	taken := p.takenOnes()
	if len(taken) == 0 || pick.below(10) == 0 {
		return pick.below(256*p.ground.Pages()+600) - 300
	}
	return taken[pick.below(len(taken))]
}

// pickedPage: most are a slab's, sealed ones too.
func pickedPage(pick *picks, p *plain) int {
	pages := p.pages()
	if len(pages) == 0 || pick.below(10) == 0 {
		return pick.below(p.ground.Pages()+4) - 2
	}
	return pages[pick.below(len(pages))]
}

// pickedJoin: a slab of any page, with any slots taken.
func pickedJoin(pick *picks, p *plain, class int) call {
	var taken []int
	set := pick.below(1 << 16)
	for slot := range 1024 / classSizes()[class] {
		if set>>(slot%16)&1 == 1 {
			taken = append(taken, slot)
		}
	}
	return join(4*pick.below(p.ground.Pages()/4+1), class, taken...)
}

// P14.1, P14.2: a ground of all pages, which the heap fills and gives back.
func TestTheWholeGround(t *testing.T) {
	x := made(t, 4096, some(15, 2047), take(15))
	if x.g.Free() != 0 || len(x.h.Pages()) != 1024 || x.h.Pages()[1023] != 4092 || x.h.Taken()[2047] != 1048576-512 {
		t.Fatal(x.g.Free(), len(x.h.Pages()))
	}
	x.each(t, take(15), take(0), seal(4092))
	for at := 0; at < 1048576; at += 512 {
		if errno := x.h.Give(at); errno != api.OK {
			t.Fatalf("Give(%d): %v", at, errno)
		}
		x.p.give(at)
	}
	x.same(t)
	if x.g.Free() != 4092 || !slices.Equal(x.h.Pages(), []int{0}) {
		t.Errorf("%d free, %v", x.g.Free(), x.h.Pages())
	}
}

// P1: calls with any numbers end, and answer as the chapter asks.
func TestAnyNumbers(t *testing.T) {
	for _, pages := range []int{0, 5, 24} {
		for _, n := range hostileInts() {
			x := made(t, pages, some(15, 3), take(0), seal(0))
			if -1<<20 < n && n < 1<<20 {
				x.apply(t, take(n), some(n, 2))
			}
			x.apply(t, some(n, n), some(n, 1), take(n), some(0, min(n, 99)), give(n), seal(n), unseal(n), leave(n), give(n))
			x.sameSlab(t, n)
			x.samePlaces(t, n)
			if list := x.h.List(n, n); (n < 0 || n > 3) && len(list) != 0 {
				t.Errorf("List(%d, %d): %v", n, n, list)
			}
		}
	}
}
