package newheap

import (
	"bytes"
	"encoding/binary"
	"math"
	"slices"
	"testing"

	"underpin/api"
	"underpin/cells"
	"underpin/ground"
	"underpin/ledger"
	"underpin/newslab"
	"underpin/radix"
	"underpin/tags"
)

// classSizes: the new layout's classes, as chapter 6 tells them.
func classSizes() []int { return []int{8, 16, 24, 32, 48, 64, 96, 128, 192, 256, 384, 512} }

func slotsIn(class int) int { return 1024 / classSizes()[class] }

func isBetween(number, least, greatest int) bool { return least <= number && number <= greatest }

// wordOf: a free slot's word, by chapter 15's table.
func wordOf(slot, next, class int) uint64 {
	return uint64(next+1) + 256*uint64(slot) + 65536*uint64(class) + 16777216*0x6672656521
}

// place: what a slab of a page is by the chapter, but for what stands in the memory.
type place struct {
	page, class, head, count int
	sealed                   bool
}

func (s *place) slots() int { return slotsIn(s.class) }

func (s *place) address(slot int) int { return 256*s.page + slot*classSizes()[s.class] }

func (s *place) ready() bool { return !s.sealed && s.count != 0 }

// slot: the slot that begins at an address, by trying each; -1, if none does.
func (s *place) slot(at int) int {
	for slot := range s.slots() {
		if s.address(slot) == at {
			return slot
		}
	}
	return -1
}

// plain: what a heap is by the chapter: slabs by their pages, and the memory's bytes. It has a ground of its own, on which it does what the chapter asks, so that both grounds must be the same.
type plain struct {
	ground *ground.Ground
	slabs  map[int]*place
	bytes  []byte
}

// put writes a number of 8 bytes, if all of them are in the memory.
func (p *plain) put(at int, number uint64) {
	if at >= 0 && at <= len(p.bytes)-8 {
		binary.LittleEndian.PutUint64(p.bytes[at:], number)
	}
}

// madeSlab: a slab of a page whose list rises; its free slots' words are written.
func (p *plain) madeSlab(page, class int, taken ...int) *place {
	s := &place{page: page, class: class, head: -1}
	for slot := s.slots() - 1; slot >= 0; slot-- {
		if !slices.Contains(taken, slot) {
			p.push(s, slot)
		}
	}
	return s
}

func (p *plain) push(s *place, slot int) {
	p.put(s.address(slot), wordOf(slot, s.head, s.class))
	s.head = slot
	s.count++
}

// next: what a slot's word tells as its next one; false, if it has none that tells its number and the class.
func (p *plain) next(s *place, slot int) (int, bool) {
	if !isBetween(slot, 0, s.slots()-1) {
		return -1, false
	}
	next := int(p.bytes[s.address(slot)]) - 1
	word := binary.LittleEndian.Uint64(p.bytes[s.address(slot):])
	return next, next <= 127 && word == wordOf(slot, next, s.class)
}

// list: the slots on the way from the head on, and whether they are right.
func (p *plain) list(s *place) ([]int, bool) {
	var list []int
	for slot := s.head; slot != -1; {
		next, ok := p.next(s, slot)
		if !ok || slices.Contains(list, slot) {
			return nil, false
		}
		list = append(list, slot)
		slot = next
	}
	if len(list) != s.count {
		return nil, false
	}
	return list, true
}

// taken: a slab's taken slots, rising; none, if its list isn't right.
func (p *plain) taken(s *place) []int {
	list, right := p.list(s)
	var rest []int
	for slot := range s.slots() {
		if right && !slices.Contains(list, slot) {
			rest = append(rest, slot)
		}
	}
	return rest
}

// pages: those of all slabs, rising.
func (p *plain) pages() []int {
	var list []int
	for page := range p.ground.Pages() {
		if p.slabs[page] != nil {
			list = append(list, page)
		}
	}
	return list
}

// ready: the slabs of a class that are ready, by pages, rising.
func (p *plain) ready(class int) []*place {
	var list []*place
	for _, page := range p.pages() {
		if s := p.slabs[page]; s.class == class && s.ready() {
			list = append(list, s)
		}
	}
	return list
}

func (p *plain) take(class int) (int, api.Errno) {
	if !isBetween(class, 0, 11) {
		return -1, api.ErrRange
	}
	var s *place
	for _, other := range p.ready(class) {
		if s == nil || other.count < s.count {
			s = other
		}
	}
	if s == nil {
		page, errno := p.ground.Open(4, 4, 1, class)
		if errno != api.OK {
			return -1, errno
		}
		s = p.madeSlab(page, class)
		p.slabs[page] = s
	}
	list, right := p.list(s)
	if !right {
		return -1, api.ErrForm
	}
	s.head, _ = p.next(s, list[0])
	s.count--
	return s.address(list[0]), api.OK
}

func (p *plain) some(class, n int) ([]int, api.Errno) {
	if !isBetween(class, 0, 11) || n < 1 {
		return nil, api.ErrRange
	}
	var list []int
	for ; n > 0; n-- {
		at, errno := p.take(class)
		if errno != api.OK {
			if len(list) == 0 {
				return nil, errno
			}
			break
		}
		list = append(list, at)
	}
	return list, api.OK
}

// around: the slab in whose 1,024 bytes an address lies, by trying each; nil, if there is none.
func (p *plain) around(at int) *place {
	for page, s := range p.slabs {
		if isBetween(at, 256*page, 256*page+1023) {
			return s
		}
	}
	return nil
}

func (p *plain) find(at int) (tags.Place, api.Errno) {
	s := p.around(at)
	if s == nil || s.slot(at) < 0 {
		return tags.Place{}, api.ErrPointer
	}
	return tags.Place{Page: s.page, Slot: s.slot(at)}, api.OK
}

func (p *plain) has(at int) bool {
	s := p.around(at)
	return s != nil && slices.Contains(p.taken(s), s.slot(at))
}

func (p *plain) give(at int) api.Errno {
	s := p.around(at)
	if s == nil {
		return api.ErrPointer
	}
	list, right := p.list(s)
	slot := s.slot(at)
	switch {
	case !right:
		return api.ErrForm
	case slot < 0:
		return api.ErrPointer
	case slices.Contains(list, slot):
		return api.ErrTwice
	}
	p.push(s, slot)
	if s.count < s.slots() {
		return api.OK
	}
	others := slices.DeleteFunc(p.ready(s.class), func(other *place) bool { return other == s })
	if s.sealed || len(others) > 0 {
		p.close(s)
	}
	return api.OK
}

func (p *plain) close(s *place) {
	delete(p.slabs, s.page)
	p.ground.Close(s.page)
}

func (p *plain) seal(page int) api.Errno {
	s := p.slabs[page]
	switch {
	case s == nil:
		return api.ErrNone
	case s.sealed:
		return api.ErrState
	case s.count == s.slots():
		p.close(s)
		return api.OK
	}
	s.sealed = true
	p.ground.Mark(page, 1, s.class, 1)
	return api.OK
}

func (p *plain) unseal(page int) api.Errno {
	s := p.slabs[page]
	if s == nil {
		return api.ErrNone
	}
	if !s.sealed {
		return api.ErrState
	}
	s.sealed = false
	p.ground.Mark(page, 1, s.class, 0)
	return api.OK
}

func (p *plain) leave(page int) (*place, api.Errno) {
	s := p.slabs[page]
	if s == nil {
		return nil, api.ErrNone
	}
	delete(p.slabs, page)
	return s, api.OK
}

func (p *plain) join(s *place) api.Errno {
	if p.slabs[s.page] != nil {
		return api.ErrThere
	}
	if p.ground.Len(s.page) != 4 {
		return api.ErrState
	}
	own := *s
	own.sealed = false
	p.slabs[s.page] = &own
	p.ground.Mark(s.page, 1, s.class, 0)
	return api.OK
}

func (p *plain) rows(class int) []Row {
	var rows []Row
	for _, page := range p.pages() {
		if s := p.slabs[page]; s.class == class {
			rows = append(rows, Row{page, s.count, s.sealed})
		}
	}
	return rows
}

// takenOnes: the addresses of all taken slots, rising.
func (p *plain) takenOnes() []int {
	var list []int
	for _, page := range p.pages() {
		s := p.slabs[page]
		for _, slot := range p.taken(s) {
			list = append(list, s.address(slot))
		}
	}
	return list
}

func (p *plain) check(page int) api.Errno {
	s := p.slabs[page]
	if s == nil {
		return api.ErrNone
	}
	if _, right := p.list(s); !right {
		return api.ErrForm
	}
	return api.OK
}

const (
	ofTake = iota
	ofSome
	ofGive
	ofSeal
	ofUnseal
	ofLeave
	ofJoin
	ofOpen
	ofClose
	ofWrite
)

// call is one that may change a heap; Open and Close are somebody else's, of the ground, and somebody writes a number into the memory.
type call struct {
	what, class, n int
	taken          []int
	number         uint64
}

func take(class int) call              { return call{what: ofTake, class: class} }
func some(class, n int) call           { return call{what: ofSome, class: class, n: n} }
func give(at int) call                 { return call{what: ofGive, n: at} }
func seal(page int) call               { return call{what: ofSeal, n: page} }
func unseal(page int) call             { return call{what: ofUnseal, n: page} }
func leave(page int) call              { return call{what: ofLeave, n: page} }
func elseOpens(n int) call             { return call{what: ofOpen, n: n} }
func elseCloses(page int) call         { return call{what: ofClose, n: page} }
func write(at int, number uint64) call { return call{what: ofWrite, n: at, number: number} }

// join: a slab of a page within the memory, of a class, with these slots taken. (Its free slots' words are written, whether it joins or not.)
func join(page, class int, taken ...int) call {
	return call{what: ofJoin, class: class, n: page, taken: taken}
}

func (c call) text() string {
	return [...]string{"Take", "Some", "Give", "Seal", "Unseal", "Leave", "Join", "Open", "Close", "somebody writes"}[c.what]
}

// answer is what a call answers, an address as a list of one, a slab as its base, its class, its head, its count, and its taken slots.
type answer struct {
	list  []int
	errno api.Errno
}

func only(e api.Errno) answer          { return answer{nil, e} }
func one(n int, e api.Errno) answer    { return answer{[]int{n}, e} }
func many(l []int, e api.Errno) answer { return answer{l, e} }

func (a answer) is(b answer) bool { return slices.Equal(a.list, b.list) && a.errno == b.errno }

// left: what Leave answers.
func left(s *newslab.Slab, errno api.Errno) answer {
	if s == nil {
		return answer{nil, errno}
	}
	taken, _ := s.Taken()
	return answer{append([]int{s.Base(), s.Class(), s.Head(), s.Free()}, taken...), errno}
}

// on: what a heap, and its ground, answer to the call.
func (c call) on(h *Heap, g *ground.Ground) answer {
	switch c.what {
	case ofTake:
		return one(h.Take(c.class))
	case ofSome:
		return many(h.Some(c.class, c.n))
	case ofGive:
		return only(h.Give(c.n))
	case ofSeal:
		return only(h.Seal(c.n))
	case ofUnseal:
		return only(h.Unseal(c.n))
	case ofLeave:
		return left(h.Leave(c.n))
	case ofJoin:
		s, _ := newslab.With(g.Cells(), 256*c.n, c.class, c.taken)
		return only(h.Join(s))
	case ofWrite:
		g.Cells().Store(c.n, 8, c.number)
		return only(api.OK)
	default:
		return c.onGround(g)
	}
}

func (c call) onGround(g *ground.Ground) answer {
	if c.what == ofOpen {
		return one(g.Open(c.n, 1, ground.VLarge, 0))
	}
	return one(g.Close(c.n))
}

// told: what the chapter asks of the call.
func (c call) told(p *plain) answer {
	switch c.what {
	case ofTake:
		return one(p.take(c.class))
	case ofSome:
		return many(p.some(c.class, c.n))
	case ofGive:
		return only(p.give(c.n))
	case ofSeal:
		return only(p.seal(c.n))
	case ofUnseal:
		return only(p.unseal(c.n))
	case ofLeave:
		s, errno := p.leave(c.n)
		if s == nil {
			return only(errno)
		}
		return answer{append([]int{256 * c.n, s.class, s.head, s.count}, p.taken(s)...), errno}
	case ofJoin:
		return only(p.join(p.madeSlab(c.n, c.class, c.taken...)))
	case ofWrite:
		p.put(c.n, c.number)
		return only(api.OK)
	default:
		return c.onGround(p.ground)
	}
}

// pair is a heap and its ground, and what both are by the chapter.
type pair struct {
	h *Heap
	g *ground.Ground
	p *plain
}

// made: a heap on a ground of so many pages, behind some calls, each of which answers as the chapter asks. The memory isn't of noughts, so that what is written shows.
func made(t *testing.T, pages int, calls ...call) pair {
	t.Helper()
	g, errno := ground.New(pages)
	if errno != api.OK {
		t.Fatal(errno)
	}
	told, _ := ground.New(pages)
	b := make([]byte, 256*pages)
	for at := range b {
		b[at] = byte(at*7 + at>>8 + 3)
	}
	g.Cells().Write(0, b)
	x := pair{New(g), g, &plain{told, map[int]*place{}, b}}
	if x.h == nil {
		t.Fatal("New: nil")
	}
	x.apply(t, calls...)
	return x
}

// apply: calls answer as the chapter asks, and leave what it asks.
func (x pair) apply(t *testing.T, calls ...call) {
	t.Helper()
	for k, c := range calls {
		want := c.told(x.p)
		if got := c.on(x.h, x.g); !got.is(want) {
			t.Fatalf("call %d, %s %+v: %v, not %v; pages %v", k, c.text(), c, got, want, x.p.pages())
		}
	}
	x.same(t)
}

// each: as apply, but all is compared behind each of the calls.
func (x pair) each(t *testing.T, calls ...call) {
	t.Helper()
	for _, c := range calls {
		x.apply(t, c)
	}
}

// same: every call that tells something tells what the chapter asks, and every byte is as it asks.
func (x pair) same(t *testing.T) {
	t.Helper()
	for class := -1; class <= 12; class++ {
		if got, want := x.h.Rows(class), x.p.rows(class); !slices.Equal(got, want) {
			t.Fatalf("Rows(%d): %v, not %v", class, got, want)
		}
		if got, want := x.h.Ready(class), len(x.p.ready(class)) > 0; got != want {
			t.Fatalf("Ready(%d): %v, not %v; rows %v", class, got, want, x.p.rows(class))
		}
	}
	if got, want := x.h.Pages(), x.p.pages(); !slices.Equal(got, want) {
		t.Fatalf("Pages: %v, not %v", got, want)
	}
	if got, want := x.h.Taken(), x.p.takenOnes(); !slices.Equal(got, want) {
		t.Fatalf("Taken: %v, not %v", got, want)
	}
	x.sameGround(t)
	for _, page := range x.p.pages() {
		x.sameChecks(t, page, page+1, page+4)
		x.samePlaces(t, 256*page-1, 256*page, 256*page+1, 256*page+512, 256*page+1023)
	}
}

// sameGround: both grounds tell the same, and the memory has the bytes that the chapter asks for.
func (x pair) sameGround(t *testing.T) {
	t.Helper()
	a, b := x.g, x.p.ground
	if a.Pages() != b.Pages() || a.Free() != b.Free() || a.Peak() != b.Peak() || a.Stamp() != b.Stamp() {
		t.Fatalf("the ground: %d pages, %d free, peak %d, stamp %d, not %d, %d, %d, %d", a.Pages(), a.Free(), a.Peak(), a.Stamp(), b.Pages(), b.Free(), b.Peak(), b.Stamp())
	}
	row := ledger.Row{}
	for version := range 3 {
		if a.Held(version) != b.Held(version) || !slices.Equal(a.Spans(version), b.Spans(version)) {
			t.Fatalf("the ground: version %d: %d, %v, not %d, %v", version, a.Held(version), a.Spans(version), b.Held(version), b.Spans(version))
		}
		row[version] = b.Held(version)
	}
	if a.Times(row) != b.Times(row) {
		t.Fatalf("the ground: %v was %d times, not %d", row, a.Times(row), b.Times(row))
	}
	for page := range a.Pages() {
		got, ok := a.At(256 * page)
		want, there := b.At(256 * page)
		if got != want || ok != there || a.Len(page) != b.Len(page) {
			t.Fatalf("the ground: page %d: %v, %v, a span of %d, not %v, %v, %d", page, got, ok, a.Len(page), want, there, b.Len(page))
		}
	}
	x.sameBytes(t)
}

func (x pair) sameBytes(t *testing.T) {
	t.Helper()
	got, _ := x.g.Cells().Read(0, x.g.Cells().Len())
	if bytes.Equal(got, x.p.bytes) {
		return
	}
	for at := range got {
		if got[at] != x.p.bytes[at] {
			t.Fatalf("the memory: byte %d is %d, not %d", at, got[at], x.p.bytes[at])
		}
	}
}

// sameChecks: Check of the pages answers as the chapter asks.
func (x pair) sameChecks(t *testing.T, pages ...int) {
	t.Helper()
	for _, page := range pages {
		if got, want := x.h.Check(page), x.p.check(page); got != want {
			t.Fatalf("Check(%d): %v, not %v", page, got, want)
		}
	}
}

// samePlaces: Find and Has of the addresses are as the chapter asks.
func (x pair) samePlaces(t *testing.T, addresses ...int) {
	t.Helper()
	for _, at := range addresses {
		want, wantE := x.p.find(at)
		if got, errno := x.h.Find(at); got != want || errno != wantE {
			t.Fatalf("Find(%d): %v, %v, not %v, %v", at, got, errno, want, wantE)
		}
		if got, want := x.h.Has(at), x.p.has(at); got != want {
			t.Fatalf("Has(%d): %v, not %v", at, got, want)
		}
	}
}

// wantRows: the rows of a class, each as page, count of free slots, and 1 for a sealed slab.
func (x pair) wantRows(t *testing.T, class int, wants ...[3]int) {
	t.Helper()
	var rows []Row
	for _, w := range wants {
		rows = append(rows, Row{Page: w[0], Free: w[1], Sealed: w[2] == 1})
	}
	if got := x.h.Rows(class); !slices.Equal(got, rows) {
		t.Errorf("Rows(%d): %v, not %v", class, got, rows)
	}
}

// wantTake: Take of a class answers these addresses.
func (x pair) wantTake(t *testing.T, class int, wants ...int) {
	t.Helper()
	for _, want := range wants {
		x.p.take(class)
		if at, errno := x.h.Take(class); at != want || errno != api.OK {
			t.Errorf("Take(%d): %d, %v, not %d", class, at, errno, want)
		}
	}
	x.same(t)
}

// wantEntry: the span of a page has this entry, on all its pages.
func (x pair) wantEntry(t *testing.T, page, class, state int) {
	t.Helper()
	want := radix.Entry{Span: page, Version: 1, Class: class, State: state}
	for k := range 4 {
		if got, ok := x.g.At(256 * (page + k)); got != want || !ok {
			t.Errorf("the entry of page %d: %v, %v, not %v", page+k, got, ok, want)
		}
	}
}

// wantClosed: no span has the pages from there on.
func (x pair) wantClosed(t *testing.T, page int) {
	t.Helper()
	for k := range 4 {
		if e, ok := x.g.At(256 * (page + k)); ok || x.g.Len(page+k) != 0 {
			t.Errorf("page %d has the entry %v", page+k, e)
		}
	}
}

func counted(n int) []int {
	var list []int
	for k := range n {
		list = append(list, k)
	}
	return list
}

// hostileInts: numbers at which a class, a page, a number of slots or an address may go wrong.
func hostileInts() []int {
	list := []int{math.MinInt, math.MinInt + 1, math.MaxInt - 1, math.MaxInt, 0x5555555555555555, -0x5555555555555556, 1000, 9999}
	for k := range 63 {
		list = append(list, 1<<k, -1<<k, 1<<k-1, 1<<k+1)
	}
	for d := -4; d <= 4; d++ {
		list = append(list, d, 16+d, 64+d, 512+d, 1024+d, 1536+d, 4096+d, 1048576+d, 1<<32+d, 1<<32+1024+d, 1<<56+4+d, 1<<62+d, math.MinInt+1024+d)
	}
	return list
}

// wrongClasses: classes that there aren't; times a power of 2 some of them are a small number.
func wrongClasses() []int {
	return []int{-1, 12, 13, 15, 16, -2, -4, 63, 64, 256, 1 << 32, 1<<32 + 11, 1 << 62, 1<<62 + 1, -1 << 62, math.MinInt, math.MinInt + 3, math.MaxInt}
}

// picks: numbers below n by a rule without order to be seen.
type picks uint64

func (p *picks) below(n int) int {
	*p = *p*6364136223846793005 + 1442695040888963407
	return int(uint64(*p) >> 33 % uint64(n))
}

// P16.1: New, on grounds of no page, of few and of all: no slab, and ground and memory stay as they are.
func TestNew(t *testing.T) {
	for _, pages := range []int{0, 1, 3, 4, 5, 16, 4095, 4096} {
		x := made(t, pages)
		if x.g.Free() != pages || x.g.Stamp() != 0 || len(x.h.Pages()) != 0 || len(x.h.Taken()) != 0 {
			t.Errorf("%d pages: %d free, %v, %v", pages, x.g.Free(), x.h.Pages(), x.h.Taken())
		}
		x.sameChecks(t, -4, -1, 0, 1, 4, 4092, 4096)
		x.samePlaces(t, -1, 0, 512, 1024)
	}
}

// P16.1: two heaps on two grounds have slabs of their own; so have two on one ground.
func TestNewApart(t *testing.T) {
	a, b := made(t, 16), made(t, 16)
	a.each(t, take(11), take(11), take(11), take(0))
	b.same(t)
	b.each(t, some(3, 40), give(0))
	a.same(t)
	second := New(a.g)
	if len(second.Pages()) != 0 || second.Ready(0) || second.Has(0) || second.Give(0) != api.ErrPointer || second.Seal(0) != api.ErrNone || second.Check(0) != api.ErrNone {
		t.Errorf("the other heap has %v", second.Pages())
	}
	if at, errno := second.Take(11); at != 3072 || errno != api.OK {
		t.Errorf("the other heap's Take: %d, %v", at, errno)
	}
	if a.h.Has(3072) || !slices.Equal(a.h.Pages(), []int{0, 4, 8}) || !slices.Equal(second.Pages(), []int{12}) {
		t.Errorf("%v and %v", a.h.Pages(), second.Pages())
	}
}

// P16.1, P16.2: the chapter's example.
func TestExample(t *testing.T) {
	x := made(t, 16)
	x.wantTake(t, 11, 0, 512, 1024)
	x.wantRows(t, 11, [3]int{0, 0, 0}, [3]int{4, 1, 0})
	x.each(t, give(0), give(512))
	x.wantRows(t, 11, [3]int{4, 1, 0})
	x.wantClosed(t, 0)
	x.wantEntry(t, 4, 11, 0)
}

// P16.1: Take of each class until there is no memory any more: slot by slot, slab by slab.
func TestTakeOfEachClass(t *testing.T) {
	for class, size := range classSizes() {
		x := made(t, 15)
		for _, page := range []int{0, 4, 8} {
			for slot := range 1024 / size {
				x.wantTake(t, class, 256*page+slot*size)
				x.wantEntry(t, page, class, 0)
			}
		}
		x.wantRows(t, class, [3]int{0, 0, 0}, [3]int{4, 0, 0}, [3]int{8, 0, 0})
		for range 2 {
			if at, errno := x.h.Take(class); at != -1 || errno != api.ErrMemory {
				t.Errorf("Take(%d): %d, %v", class, at, errno)
			}
			x.same(t)
		}
	}
}

// P16.1, P16.5: a class that there isn't is ErrRange, of Take and of Some, with slabs and without any; it has no rows, and none is ready.
func TestOfNoClass(t *testing.T) {
	for _, calls := range [][]call{nil, {take(0), take(11), some(1, 70)}, {take(0), elseOpens(200)}} {
		x := made(t, 64, calls...)
		for _, class := range wrongClasses() {
			if at, errno := x.h.Take(class); at != -1 || errno != api.ErrRange {
				t.Errorf("Take(%d): %d, %v", class, at, errno)
			}
			for _, n := range []int{-1, 0, 1, 2, math.MaxInt, math.MinInt} {
				if list, errno := x.h.Some(class, n); len(list) != 0 || errno != api.ErrRange {
					t.Errorf("Some(%d, %d): %v, %v", class, n, list, errno)
				}
			}
			if x.h.Ready(class) || len(x.h.Rows(class)) != 0 {
				t.Errorf("class %d: %v, %v", class, x.h.Ready(class), x.h.Rows(class))
			}
		}
		x.same(t)
	}
}

// P16.1: of several slabs with unlike counts of free slots the fullest one, wherever its page is, till it is full; then the next one.
func TestTakeFromTheFullest(t *testing.T) {
	for _, free := range [][]int{{1, 2, 3}, {1, 3, 2}, {2, 1, 3}, {2, 3, 1}, {3, 1, 2}, {3, 2, 1}} {
		x := made(t, 16)
		var order []int
		for k, n := range free {
			x.apply(t, elseOpens(4), join(4*k, 9, counted(4-n)...))
		}
		for n := 1; n <= 3; n++ {
			page := 4 * slices.Index(free, n)
			for slot := 4 - n; slot < 4; slot++ {
				order = append(order, 256*page+256*slot)
			}
		}
		x.wantTake(t, 9, order...)
		x.wantTake(t, 9, 3072)
	}
}

// P16.1: of several slabs with as many free slots the one of the least page, in whatever order they came.
func TestTakeFromTheLeastPage(t *testing.T) {
	for _, order := range [][]int{{0, 4, 8}, {0, 8, 4}, {4, 0, 8}, {4, 8, 0}, {8, 0, 4}, {8, 4, 0}} {
		x := made(t, 12, elseOpens(4), elseOpens(4), elseOpens(4))
		for _, page := range order {
			x.apply(t, join(page, 10, 0))
		}
		x.wantTake(t, 10, 384, 1408, 2432)
		y := made(t, 12, elseOpens(4), elseOpens(4), elseOpens(4))
		for _, page := range order {
			y.apply(t, join(page, 10))
		}
		y.wantTake(t, 10, 0, 384, 1024, 1408, 2048, 2432)
	}
}

// P16.1: many slabs: always the fullest, of several the first one, whatever the order in which they are kept.
func TestTakeAmongMany(t *testing.T) {
	var pick picks
	for range 8 {
		x := made(t, 256)
		for page := 0; page < 256; page += 4 {
			x.p.ground.Open(4, 4, 2, 0)
			x.g.Open(4, 4, 2, 0)
			join := join(page, 7, counted(pick.below(9))...)
			join.told(x.p)
			join.on(x.h, x.g)
		}
		for range 60 {
			x.apply(t, take(7))
		}
		x.apply(t, some(7, 100), some(7, 1000))
	}
}

// P16.1: by one that is full nothing is opened as long as another is ready; nothing is taken from a sealed slab, nor from one that has left, nor from one of another class.
func TestTakeFromNoOther(t *testing.T) {
	x := made(t, 20, some(10, 3), give(0))
	x.wantRows(t, 10, [3]int{0, 1, 0}, [3]int{4, 1, 0})
	x.wantTake(t, 10, 0, 1408)
	x = made(t, 20, take(8), seal(0), take(8), leave(4), take(9))
	x.wantTake(t, 8, 3072)
	x.wantRows(t, 8, [3]int{0, 4, 1}, [3]int{12, 4, 0})
	x.apply(t, unseal(0))
	x.wantTake(t, 8, 192, 384, 576, 768, 3264)
}

// P16.1: slots come out of a slab in its list's order: the one that was given last comes first.
func TestTakeInTheListsOrder(t *testing.T) {
	x := made(t, 8, some(7, 8), give(640), give(0), give(256))
	x.wantTake(t, 7, 256, 0, 640)
	x.wantTake(t, 7, 1024)
}

// P16.1: a span is opened where it has 4 pages from a multiple of 4 on, where somebody else has spans, too; where there is none: the ground's error, and nothing changes.
func TestTakeBesideOthers(t *testing.T) {
	for pages := range 24 {
		for n := range 20 {
			x := made(t, pages, elseOpens(n))
			x.each(t, take(4), take(11), some(4, 40), take(0))
		}
	}
	x := made(t, 12, elseOpens(5))
	x.wantTake(t, 11, 2048, 2560)
	x.each(t, take(11), take(0), some(0, 3), elseCloses(0))
	x.wantTake(t, 11, 0)
}

// P16.1: with a book that is used up, by somebody else and by the heap, Take and Some have the ground's error.
func TestWithTheBookUsedUp(t *testing.T) {
	for _, calls := range [][]call{{elseOpens(8)}, {elseOpens(3), elseOpens(5)}, {some(11, 4)}, {some(11, 2), elseOpens(4)}, {take(9), seal(0), elseOpens(4)}} {
		x := made(t, 8, calls...)
		if x.g.Free() != 0 {
			t.Fatal(x.g.Free())
		}
		for _, class := range []int{0, 5, 11} {
			want, wantE := x.g.Clone().Open(4, 4, 1, class)
			if at, errno := x.h.Take(class); at != want || at != -1 || errno != wantE || errno == api.OK {
				t.Errorf("Take(%d): %d, %v, not %d, %v", class, at, errno, want, wantE)
			}
			if list, errno := x.h.Some(class, 2); len(list) != 0 || errno != wantE {
				t.Errorf("Some(%d, 2): %v, %v, not %v", class, list, errno, wantE)
			}
			x.same(t)
		}
	}
}

// P16.1, P1: grounds of which no span of 4 pages may be taken, or only one: all calls answer.
func TestWithoutMemory(t *testing.T) {
	for _, pages := range []int{0, 1, 2, 3} {
		x := made(t, pages)
		for class := range 12 {
			x.each(t, take(class), some(class, 1), some(class, 9), some(class, math.MaxInt))
		}
		x.each(t, give(0), give(-1), seal(0), unseal(0), leave(0))
		if x.g.Stamp() != 0 {
			t.Errorf("the stamp is %d", x.g.Stamp())
		}
	}
	for _, pages := range []int{4, 5, 6, 7} {
		x := made(t, pages)
		x.wantTake(t, 11, 0, 512)
		x.each(t, take(11), take(10), give(0), give(512), take(10), take(11), seal(0), give(0), give(512))
		x.wantTake(t, 10, 0)
	}
}

// P16.1: Take and Some where the fullest slab's list isn't right: ErrForm, though another slab is ready, and there is memory.
func TestTakeFromBroken(t *testing.T) {
	x := made(t, 16, some(9, 5), give(0), give(256), write(0, 7))
	x.wantRows(t, 9, [3]int{0, 2, 0}, [3]int{4, 3, 0})
	for range 2 {
		if at, errno := x.h.Take(9); at != -1 || errno != api.ErrForm {
			t.Errorf("Take: %d, %v", at, errno)
		}
		for _, n := range []int{1, 2, 3, 99} {
			if list, errno := x.h.Some(9, n); len(list) != 0 || errno != api.ErrForm {
				t.Errorf("Some(9, %d): %v, %v", n, list, errno)
			}
		}
		x.same(t)
	}
	// Right again, it is taken from as before.
	x.apply(t, write(0, wordOf(0, -1, 9)))
	x.wantTake(t, 9, 256, 0, 1280)
}

// P16.1: a broken list that isn't the fullest one's doesn't matter, till Some comes to it: what was taken until then is answered.
func TestSomeUpToBroken(t *testing.T) {
	x := made(t, 16, some(9, 5), give(0), write(1280, 0))
	x.wantRows(t, 9, [3]int{0, 1, 0}, [3]int{4, 3, 0})
	y := made(t, 16, some(9, 5), give(0), write(1280, 0))
	if list, errno := x.h.Some(9, 3); !slices.Equal(list, []int{0}) || errno != api.OK {
		t.Errorf("Some: %v, %v", list, errno)
	}
	x.p.some(9, 3)
	x.same(t)
	x.each(t, take(9), some(9, 2))
	y.wantTake(t, 9, 0)
	y.each(t, take(9), some(9, 1), seal(4), some(9, 5), some(9, 99))
	// A break behind the head is one, too, for the whole list is asked.
	z := made(t, 16, take(8), write(768, wordOf(4, -1, 7)))
	z.each(t, take(8), some(8, 1), seal(0), take(8))
}

// P16.1: Some of no slots, of a number below 0, of one, of several within a slab and over more than one, of all, and of more than there is memory for.
func TestSome(t *testing.T) {
	for class := range classSizes() {
		slots := slotsIn(class)
		for _, n := range []int{math.MinInt, -1, 0, 1, 2, slots - 1, slots, slots + 1, 2*slots + 1, 3 * slots, 3*slots + 1, 1000, math.MaxInt} {
			x := made(t, 14, some(class, n), some(class, n), give(0), some(class, n), some(class, 1))
			x.each(t, some(class, n), take(class))
		}
	}
}

// P16.1: Some, written out: the fullest slab first, of several that of the least page, then the others, then new ones, till memory ends.
func TestSomeWrittenOut(t *testing.T) {
	x := made(t, 18, some(9, 12), give(0), give(256), give(512), give(2048), give(1536), give(1024))
	x.wantRows(t, 9, [3]int{0, 3, 0}, [3]int{4, 2, 0}, [3]int{8, 1, 0})
	for _, s := range []struct {
		n     int
		want  []int
		errno api.Errno
	}{
		{0, nil, api.ErrRange}, {-1, nil, api.ErrRange}, {math.MinInt, nil, api.ErrRange},
		{2, []int{2048, 1024}, api.OK},
		{1, []int{1536}, api.OK},
		{5, []int{512, 256, 0, 3072, 3328}, api.OK},
		{9, []int{3584, 3840}, api.OK},
		{1, nil, api.ErrMemory}, {math.MaxInt, nil, api.ErrMemory},
		{0, nil, api.ErrRange},
	} {
		x.p.some(9, s.n)
		if got, errno := x.h.Some(9, s.n); !slices.Equal(got, s.want) || errno != s.errno {
			t.Errorf("Some(9, %d): %v, %v, not %v, %v", s.n, got, errno, s.want, s.errno)
		}
		x.same(t)
	}
}

// P16.1: Some answers what as many Takes do, one after the other, and leaves what they leave.
func TestSomeAsTakes(t *testing.T) {
	var pick picks
	for range 60 {
		class := pick.below(12)
		n := 1 + pick.below(2*slotsIn(class))
		x, y := made(t, 20), made(t, 20)
		for k := range 3 {
			c := join(4*k, class, counted(pick.below(slotsIn(class)+1))...)
			x.apply(t, elseOpens(4), c)
			y.apply(t, elseOpens(4), c)
		}
		list, errno := x.h.Some(class, n)
		x.p.some(class, n)
		if len(list) != n || errno != api.OK {
			t.Fatalf("Some(%d, %d): %v, %v", class, n, list, errno)
		}
		y.wantTake(t, class, list...)
		x.same(t)
		if !slices.Equal(x.h.Rows(class), y.h.Rows(class)) || len(x.g.Cells().Differ(y.g.Cells())) != 0 {
			t.Errorf("class %d, %d slots: %v, not %v", class, n, x.h.Rows(class), y.h.Rows(class))
		}
	}
}

// P16.2: Give of an address in no slab: below 0, beyond the memory, in no span, in somebody else's, in a slab that left, in one that was closed.
func TestGiveOutsideOfSlabs(t *testing.T) {
	x := made(t, 20, some(11, 5), elseOpens(4), leave(4), take(11), give(2048), elseOpens(3))
	if !slices.Equal(x.h.Pages(), []int{0, 8}) {
		t.Fatal(x.h.Pages())
	}
	for _, at := range []int{-1, -8, -512, -1024, -256, 1024, 1280, 1536, 2047, 3072, 3328, 4096, 5119, 5120, 1 << 20, math.MinInt, math.MinInt + 1024, math.MaxInt, 1 << 32, 1<<32 + 512, 1<<62 + 512} {
		if errno := x.h.Give(at); errno != api.ErrPointer {
			t.Errorf("Give(%d): %v", at, errno)
		}
		if p, errno := x.h.Find(at); p != (tags.Place{}) || errno != api.ErrPointer || x.h.Has(at) {
			t.Errorf("Find(%d): %v, %v", at, p, errno)
		}
		x.same(t)
	}
	x.each(t, give(2560), seal(8), give(2048))
	if errno := x.h.Give(2560); errno != api.ErrPointer {
		t.Errorf("Give: %v", errno)
	}
}

// P16.2: Give, Find and Has of every address of a slab and around it, of slabs that are empty, partial and full, and sealed.
func TestGiveOfEveryAddress(t *testing.T) {
	for _, class := range []int{0, 2, 8, 11} {
		slots := slotsIn(class)
		for _, calls := range [][]call{{join(4, class)}, {join(4, class, 1)}, {join(4, class, counted(slots)...)}, {join(4, class, 0, 1), seal(4)}} {
			for at := 1000; at < 2080; at++ {
				x := made(t, 12, append([]call{elseOpens(4), elseOpens(4)}, calls...)...)
				x.samePlaces(t, at)
				x.apply(t, give(at))
				x.apply(t, give(at))
			}
		}
	}
}

// P16.2: Give, written out: within a slot, behind the last one, free, of a full slab, of a partial one.
func TestGiveWrittenOut(t *testing.T) {
	x := made(t, 16, some(8, 7))
	x.wantRows(t, 8, [3]int{0, 0, 0}, [3]int{4, 3, 0})
	for _, s := range []struct {
		at           int
		errno        api.Errno
		first, other int
	}{
		{1, api.ErrPointer, 0, 3},
		{191, api.ErrPointer, 0, 3},
		{960, api.ErrPointer, 0, 3},
		{1023, api.ErrPointer, 0, 3},
		{1408, api.ErrTwice, 0, 3},
		{1984, api.ErrPointer, 0, 3},
		{768, api.OK, 1, 3},
		{768, api.ErrTwice, 1, 3},
		{1216, api.OK, 1, 4},
		{0, api.OK, 2, 4},
	} {
		x.p.give(s.at)
		if errno := x.h.Give(s.at); errno != s.errno {
			t.Errorf("Give(%d): %v, not %v", s.at, errno, s.errno)
		}
		x.wantRows(t, 8, [3]int{0, s.first, 0}, [3]int{4, s.other, 0})
		x.same(t)
	}
}

// P16.2: Give in a slab whose list isn't right: layer 15's error ahead of what is wrong with the address, though not for an address outside of it.
func TestGiveInBroken(t *testing.T) {
	x := made(t, 16, some(8, 3), write(576, 1))
	for at, want := range map[int]api.Errno{0: api.ErrForm, 192: api.ErrForm, 1: api.ErrForm, 576: api.ErrForm, 1023: api.ErrForm, -1: api.ErrPointer, 1024: api.ErrPointer} {
		if errno := x.h.Give(at); errno != want {
			t.Errorf("Give(%d): %v, not %v", at, errno, want)
		}
		x.same(t)
	}
	x.each(t, write(576, wordOf(3, 4, 8)), give(0), give(192), give(1))
}

// P16.2: the last taken slot of a slab: it stays, where no other slab of the class is ready: there is no other, or only full ones, sealed ones, or those of other classes.
func TestGiveOfTheLastStays(t *testing.T) {
	for _, calls := range [][]call{
		{},
		{join(4, 9, 0, 1, 2, 3)},
		{join(4, 9, 0), seal(4)},
		{join(4, 10, 0), join(8, 0)},
		{join(4, 9, 0, 1, 2, 3), join(8, 9, 1), seal(8)},
		{join(4, 9, 1), leave(4)},
	} {
		x := made(t, 16, elseOpens(4), elseOpens(4), elseOpens(4), join(0, 9, 0))
		x.each(t, calls...)
		x.apply(t, give(0))
		if got := x.h.Rows(9); len(got) == 0 || got[0] != (Row{Page: 0, Free: 4}) {
			t.Errorf("%v: Rows: %v", calls, got)
		}
		x.wantEntry(t, 0, 9, 0)
		x.apply(t, take(9), give(0))
	}
}

// P16.2: it is closed, where another slab of the class is ready, one whose slots are all free, too, whichever of both has the lesser page; the other one stays.
func TestGiveOfTheLastCloses(t *testing.T) {
	for _, taken := range [][]int{{1}, {0, 1, 2}, nil} {
		for _, page := range []int{0, 4} {
			other := 4 - page
			x := made(t, 16, elseOpens(4), elseOpens(4), join(page, 9, 3), join(other, 9, taken...))
			x.apply(t, give(256*page+768))
			x.wantClosed(t, page)
			x.wantEntry(t, other, 9, 0)
			x.wantRows(t, 9, [3]int{other, 4 - len(taken), 0})
			x.each(t, give(256*page+768), seal(page))
		}
	}
}

// P16.2: of a sealed slab: it stays sealed until its last taken slot is free; then it is closed, whether another one is ready or not.
func TestGiveOfSealed(t *testing.T) {
	for _, ready := range []bool{false, true} {
		x := made(t, 24, some(11, 6), seal(0), seal(4), seal(8))
		if ready {
			x.each(t, take(11))
		}
		x.apply(t, give(1024))
		x.wantEntry(t, 4, 11, 1)
		x.apply(t, give(1536))
		x.wantClosed(t, 4)
		x.each(t, give(0), give(512))
		x.wantClosed(t, 0)
		x.each(t, give(1536), give(512), unseal(8), give(2048), give(2560))
		if got := x.h.Pages(); !slices.Equal(got, [][]int{{8}, {12}}[count(ready)]) {
			t.Errorf("Pages: %v", got)
		}
	}
}

func count(is bool) int {
	if is {
		return 1
	}
	return 0
}

// P16.2: Find and Has of each slot, taken and free, and of addresses at which none begins, of each class.
func TestFind(t *testing.T) {
	for class, size := range classSizes() {
		slots := slotsIn(class)
		x := made(t, 12, elseOpens(4), join(0, class, 0), elseOpens(4), join(4, class, slots-1), seal(4))
		for at := -100; at < 3200; at++ {
			x.samePlaces(t, at)
		}
		for slot := range slots {
			want := tags.Place{Page: 4, Slot: slot}
			at := 1024 + slot*size
			if p, errno := x.h.Find(at); p != want || errno != api.OK || x.h.Has(at) != (slot == slots-1) {
				t.Errorf("class %d: Find(%d): %v, %v, %v", class, at, p, errno, x.h.Has(at))
			}
		}
		x.samePlaces(t, hostileInts()...)
	}
}

// P16.2: Has, written out: of a taken slot, of a free one and of neither; a client's bytes that look like a free slot's word don't matter.
func TestHas(t *testing.T) {
	x := made(t, 12, some(8, 3), give(192), write(0, wordOf(0, 1, 8)), write(384, wordOf(2, -1, 8)))
	for at, want := range map[int]bool{0: true, 192: false, 384: true, 576: false, 385: false, 960: false, 1024: false, -1: false, -192: false, 4096: false, math.MinInt: false, math.MaxInt: false} {
		if got := x.h.Has(at); got != want {
			t.Errorf("Has(%d): %v", at, got)
		}
	}
	x.each(t, take(8), give(0), give(384))
}

// P16.2: in a slab whose list isn't right slots are found, but none is taken; those of other slabs are.
func TestFindInBroken(t *testing.T) {
	x := made(t, 12, some(11, 3), give(0), give(512), join(0, 9, 1, 2))
	x.apply(t, elseOpens(4), join(0, 9, 1, 2), write(768, 0))
	for slot := range 4 {
		if p, errno := x.h.Find(256 * slot); p != (tags.Place{Page: 0, Slot: slot}) || errno != api.OK || x.h.Has(256*slot) {
			t.Errorf("Find(%d): %v, %v, %v", 256*slot, p, errno, x.h.Has(256*slot))
		}
	}
	if !x.h.Has(1024) || x.h.Has(1536) || !slices.Equal(x.h.Taken(), []int{1024}) {
		t.Errorf("Taken: %v", x.h.Taken())
	}
	x.apply(t, write(768, wordOf(3, -1, 9)))
	if !slices.Equal(x.h.Taken(), []int{256, 512, 1024}) {
		t.Errorf("Taken: %v", x.h.Taken())
	}
}

// P16.2: Ready with no slab, with full ones, sealed ones, one that has left, one of another class, and with one that isn't full, or has a broken list.
func TestReady(t *testing.T) {
	for _, s := range []struct {
		calls []call
		want  bool
	}{
		{nil, false},
		{[]call{take(11)}, true},
		{[]call{take(11), give(0)}, true},
		{[]call{some(11, 2)}, false},
		{[]call{some(11, 4)}, false},
		{[]call{take(11), seal(0)}, false},
		{[]call{take(11), seal(0), unseal(0)}, true},
		{[]call{some(11, 2), seal(0), unseal(0)}, false},
		{[]call{take(11), leave(0)}, false},
		{[]call{take(10)}, false},
		{[]call{some(11, 3)}, true},
		{[]call{some(11, 3), seal(4)}, false},
		{[]call{take(11), give(0), seal(0)}, false},
		{[]call{take(11), write(512, 0)}, true},
	} {
		x := made(t, 8, s.calls...)
		if got := x.h.Ready(11); got != s.want {
			t.Errorf("%v: %v", s.calls, got)
		}
		for _, class := range wrongClasses() {
			if x.h.Ready(class) {
				t.Errorf("%v: Ready(%d)", s.calls, class)
			}
		}
	}
}

// P16.3, P16.4, P16.5: Seal, Unseal, Leave and Check of what is no slab's page, or within a slab: ErrNone, and nothing changes.
func TestOfNoSlab(t *testing.T) {
	x := made(t, 20, take(1), some(11, 3), seal(4), elseOpens(4))
	if !slices.Equal(x.h.Pages(), []int{0, 4, 8}) {
		t.Fatal(x.h.Pages())
	}
	for _, page := range []int{-1, -4, 1, 2, 3, 5, 7, 9, 11, 12, 13, 16, 19, 20, 24, 4096, 1 << 32, 1<<32 + 4, 1 << 62, math.MinInt, math.MinInt + 4, math.MaxInt, 1024, 256} {
		if errno := x.h.Seal(page); errno != api.ErrNone {
			t.Errorf("Seal(%d): %v", page, errno)
		}
		if errno := x.h.Unseal(page); errno != api.ErrNone {
			t.Errorf("Unseal(%d): %v", page, errno)
		}
		if s, errno := x.h.Leave(page); s != nil || errno != api.ErrNone {
			t.Errorf("Leave(%d): %v, %v", page, s, errno)
		}
		if errno := x.h.Check(page); errno != api.ErrNone {
			t.Errorf("Check(%d): %v", page, errno)
		}
		x.same(t)
	}
}

// P16.3: Seal of a slab whose slots are all free, of a partial and of a full one, and of a sealed one; what the entries say behind it.
func TestSeal(t *testing.T) {
	x := made(t, 16, elseOpens(4), elseOpens(4), elseOpens(4), join(0, 9, 0, 1, 2, 3), join(4, 9), join(8, 9, 2))
	x.apply(t, seal(4))
	x.wantRows(t, 9, [3]int{0, 0, 0}, [3]int{8, 3, 0})
	x.wantClosed(t, 4)
	x.apply(t, seal(4))
	for k, page := range []int{8, 0} {
		x.apply(t, seal(page))
		x.wantEntry(t, page, 9, 1)
		stamp := x.g.Stamp()
		if errno := x.h.Seal(page); errno != api.ErrState || x.g.Stamp() != stamp {
			t.Errorf("Seal(%d) twice: %v", page, errno)
		}
		x.same(t)
		x.wantRows(t, 9, [3]int{0, 0, k}, [3]int{8, 3, 1})
	}
}

// P16.3: whether all slots are free is told by the count, though the list isn't right.
func TestSealOfBroken(t *testing.T) {
	x := made(t, 16, take(9), give(0), write(256, 0))
	x.sameChecks(t, 0)
	x.apply(t, seal(0))
	x.wantClosed(t, 0)
	x.each(t, take(9), write(768, 0), seal(0), seal(0))
	x.wantEntry(t, 0, 9, 1)
	x.each(t, give(0), unseal(0), unseal(0), seal(0), leave(0), join(0, 9, 1))
}

// P16.3: Unseal of slabs that aren't sealed, empty, partial and full; of sealed ones, partial and full; what the entries say behind it.
func TestUnseal(t *testing.T) {
	x := made(t, 16, elseOpens(4), elseOpens(4), elseOpens(4), join(0, 9, 0, 1, 2, 3), join(4, 9), join(8, 9, 2))
	for _, page := range []int{0, 4, 8} {
		stamp := x.g.Stamp()
		if errno := x.h.Unseal(page); errno != api.ErrState || x.g.Stamp() != stamp {
			t.Errorf("Unseal(%d): %v", page, errno)
		}
		x.same(t)
	}
	x.each(t, seal(0), seal(8))
	for k, page := range []int{8, 0} {
		x.wantEntry(t, page, 9, 1)
		x.apply(t, unseal(page))
		x.wantEntry(t, page, 9, 0)
		x.wantRows(t, 9, [3]int{0, 0, 1 - k}, [3]int{4, 4, 0}, [3]int{8, 3, 0})
		x.apply(t, unseal(page))
	}
	x.wantTake(t, 9, 2048)
	x.each(t, seal(4), unseal(4), seal(8), unseal(8))
}

// P16.4: Leave of a partial slab, of a full and an empty one, and of a sealed one: it is that slab; the span and its entries stay, the sealed one's too.
func TestLeave(t *testing.T) {
	for k, s := range []struct {
		calls []call
		taken []int
	}{
		{[]call{take(11)}, []int{0}},
		{[]call{some(11, 2)}, []int{0, 1}},
		{[]call{take(11), give(0)}, nil},
		{[]call{some(11, 2), give(0), seal(0)}, []int{1}},
	} {
		x := made(t, 16, s.calls...)
		stamp := x.g.Stamp()
		slab, errno := x.h.Leave(0)
		if slab == nil || errno != api.OK || slab.Base() != 0 || slab.Class() != 11 {
			t.Fatalf("Leave: %v, %v", slab, errno)
		}
		if taken, errno := slab.Taken(); !slices.Equal(taken, s.taken) || errno != api.OK || slab.Free() != 2-len(s.taken) {
			t.Fatalf("Leave: taken %v, %v, %d free", taken, errno, slab.Free())
		}
		x.p.leave(0)
		x.same(t)
		x.wantRows(t, 11)
		x.wantEntry(t, 0, 11, count(k == 3))
		if x.g.Stamp() != stamp || x.g.Len(0) != 4 {
			t.Errorf("the span is of %d, the stamp %d", x.g.Len(0), x.g.Stamp())
		}
		x.each(t, leave(0), seal(0), unseal(0), give(0), give(512), take(11), elseCloses(0))
	}
}

// P16.4: a slab that has left is out of the heap's hands, until it joins again: as it is by then, and not sealed.
func TestLeaveAndJoin(t *testing.T) {
	x := made(t, 16, some(10, 3), seal(0))
	slab, errno := x.h.Leave(0)
	if slab == nil || errno != api.OK {
		t.Fatal(errno)
	}
	s, _ := x.p.leave(0)
	if errno := slab.GiveAll(0, 384); errno != api.OK {
		t.Fatal(errno)
	}
	x.p.push(s, 0)
	x.p.push(s, 1)
	x.same(t)
	if errno := x.h.Join(slab); errno != api.OK {
		t.Fatal(errno)
	}
	x.p.join(s)
	x.same(t)
	x.wantRows(t, 10, [3]int{0, 2, 0}, [3]int{4, 1, 0})
	x.wantEntry(t, 0, 10, 0)
	again, errno := x.h.Leave(0)
	if again != slab || errno != api.OK {
		t.Errorf("Leave: another slab, or %v", errno)
	}
	x.p.leave(0)
	x.each(t, join(0, 10), take(10), take(10))
}

// P16.4: the slab that joins is the heap's own: what the heap does is seen in it.
func TestJoinedIsTheThingItself(t *testing.T) {
	x := made(t, 8, elseOpens(4))
	slab, _ := newslab.New(x.g.Cells(), 0, 9)
	x.p.madeSlab(0, 9)
	if errno := x.h.Join(slab); errno != api.OK {
		t.Fatal(errno)
	}
	x.p.join(x.p.madeSlab(0, 9))
	x.same(t)
	x.each(t, some(9, 3), give(256))
	if slab.Free() != 2 || slab.Head() != 1 {
		t.Errorf("the slab: %d free, head %d", slab.Free(), slab.Head())
	}
}

// P16.4: Join of an empty slab, of a partial and of a full one, of each class; the span's version, class and state are marked.
func TestJoin(t *testing.T) {
	for class := range classSizes() {
		slots := slotsIn(class)
		for _, taken := range [][]int{{slots - 1}, counted(slots), nil} {
			x := made(t, 24, elseOpens(4), join(0, class, taken...), elseOpens(4), join(4, class, taken...))
			free := slots - len(taken)
			x.wantRows(t, class, [3]int{0, free, 0}, [3]int{4, free, 0})
			x.wantEntry(t, 0, class, 0)
			x.wantEntry(t, 4, class, 0)
			if x.g.Held(1) != 8 || x.g.Held(2) != 0 {
				t.Errorf("held: %d and %d", x.g.Held(1), x.g.Held(2))
			}
			x.each(t, take(class), give(0), give(1024), seal(0), some(class, slots+1))
		}
	}
}

// onGround: a slab of a page, on the ground's memory, of which no byte is written.
func onGround(t *testing.T, g *ground.Ground, page, class int, taken ...int) *newslab.Slab {
	t.Helper()
	whole, _ := cells.New(1048576)
	s, errno := newslab.With(whole, 256*page, class, taken)
	if errno != api.OK {
		t.Fatal(errno)
	}
	return s.On(g.Cells())
}

// P16.4: Join of the slab of a page that the heap has: ErrThere, also where it is the same slab, and where it is sealed; of one at whose page no span of 4 pages begins: ErrState. Nothing changes.
func TestJoinErrors(t *testing.T) {
	x := made(t, 33, take(7), some(11, 2), seal(4), elseOpens(3), elseOpens(5), elseOpens(8))
	if got := x.g.Spans(2); !slices.Equal(got, []int{8, 11, 16}) {
		t.Fatal(got)
	}
	for page, want := range map[int]api.Errno{0: api.ErrThere, 4: api.ErrThere, 8: api.ErrState, 12: api.ErrState, 16: api.ErrState, 20: api.ErrState, 24: api.ErrState, 28: api.ErrState, 32: api.ErrState, 36: api.ErrState, 4092: api.ErrState} {
		for _, class := range []int{0, 7, 11} {
			for _, taken := range [][]int{nil, {1}, {0, 1}} {
				if errno := x.h.Join(onGround(t, x.g, page, class, taken...)); errno != want {
					t.Errorf("Join of page %d: %v, not %v", page, errno, want)
				}
				x.same(t)
			}
		}
	}
	y := made(t, 16, elseOpens(4))
	s, _ := newslab.With(y.g.Cells(), 0, 9, []int{2})
	if errno := y.h.Join(s); errno != api.OK {
		t.Fatal(errno)
	}
	if errno := y.h.Join(s); errno != api.ErrThere {
		t.Errorf("Join twice: %v", errno)
	}
	y.p.join(y.p.madeSlab(0, 9, 2))
	y.same(t)
	y.each(t, give(512), join(0, 9), seal(0), join(0, 9, 1), elseOpens(4), join(0, 3), join(0, 3, 2))
}

// P16.4: Join of what begins within another span, and of a span of 4 pages that isn't at the page itself.
func TestJoinWithinSpans(t *testing.T) {
	x := made(t, 24, elseOpens(2), elseOpens(4), elseOpens(12))
	for page := 0; page < 24; page += 4 {
		if errno := x.h.Join(onGround(t, x.g, page, 5, 1)); errno != api.ErrState {
			t.Errorf("Join of page %d: %v", page, errno)
		}
		x.same(t)
	}
}

// P16.4: a slab of another class than that of its span before, which was sealed, or of another version, joins: the entries tell its own.
func TestJoinOfAnotherClass(t *testing.T) {
	x := made(t, 16, some(11, 3), seal(4), leave(4), join(4, 2, 3, 20), take(11), take(2))
	x.wantEntry(t, 4, 2, 0)
	x.wantRows(t, 2, [3]int{4, 39, 0})
	x.wantRows(t, 11, [3]int{0, 0, 0}, [3]int{8, 1, 0})
	x.apply(t, leave(4))
	for _, g := range []*ground.Ground{x.g, x.p.ground} {
		if errno := g.Mark(4, 0, 13, 1); errno != api.OK {
			t.Fatal(errno)
		}
	}
	x.each(t, join(4, 5, 1))
	x.wantEntry(t, 4, 5, 0)
	if x.g.Held(1) != 12 || x.g.Held(0) != 0 {
		t.Errorf("held: %d and %d", x.g.Held(0), x.g.Held(1))
	}
}

// P16.4, P16.5: a slab whose list isn't right may leave and join; its count is told, and it is as broken as before.
func TestLeaveAndJoinOfBroken(t *testing.T) {
	x := made(t, 16, some(9, 2), write(512, 5))
	slab, errno := x.h.Leave(0)
	if slab == nil || errno != api.OK || slab.Free() != 2 || slab.Check() != api.ErrForm {
		t.Fatal(slab, errno)
	}
	s, _ := x.p.leave(0)
	if errno := x.h.Join(slab); errno != api.OK {
		t.Fatal(errno)
	}
	x.p.join(s)
	x.same(t)
	x.each(t, take(9), give(0), seal(0), unseal(0), write(512, wordOf(2, 3, 9)), take(9), give(0))
}

// P16.5: Rows of each class, whatever stands beside it, and in whatever order slabs came.
func TestRows(t *testing.T) {
	var calls []call
	for range 48 {
		calls = append(calls, elseOpens(4))
	}
	for k := range 48 {
		// Seven has no divisor with 48, so that each page is named once.
		page := 4 * (k * 7 % 48)
		class := page / 16
		taken := [][]int{{0}, counted(slotsIn(class)), nil, {1}}[page/4%4]
		calls = append(calls, join(page, class, taken...))
		if page/4%4 == 3 {
			calls = append(calls, seal(page))
		}
	}
	x := made(t, 192, calls...)
	for class := range 12 {
		n, page := slotsIn(class), 16*class
		x.wantRows(t, class, [3]int{page, n - 1, 0}, [3]int{page + 4, 0, 0}, [3]int{page + 8, n, 0}, [3]int{page + 12, n - 1, 1})
	}
	for _, class := range wrongClasses() {
		x.wantRows(t, class)
	}
}

// P16.5: Pages and Taken with no slab, one and several, rising, whatever their classes, and in whatever order they came; slots rise, whatever the lists' order.
func TestPagesAndTaken(t *testing.T) {
	x := made(t, 24)
	want := func(pages, taken []int) {
		t.Helper()
		if got := x.h.Pages(); !slices.Equal(got, pages) {
			t.Errorf("Pages: %v, not %v", got, pages)
		}
		if got := x.h.Taken(); !slices.Equal(got, taken) {
			t.Errorf("Taken: %v, not %v", got, taken)
		}
	}
	want(nil, nil)
	x.each(t, some(11, 3))
	want([]int{0, 4}, []int{0, 512, 1024})
	x.each(t, leave(0), some(8, 3), join(0, 9, 3, 1), seal(4))
	want([]int{0, 4, 8}, []int{256, 768, 1024, 2048, 2240, 2432})
	x.each(t, give(2240), give(2048))
	want([]int{0, 4, 8}, []int{256, 768, 1024, 2432})
	x.each(t, take(8), give(1024), give(768))
	want([]int{0, 8}, []int{256, 2048, 2432})
	x.each(t, give(2048), give(2432), give(256), seal(0), leave(8))
	want(nil, nil)
}

// P16.5: Taken tells none of a slab whose list isn't right, but those of the slabs before and behind it.
func TestTakenWithBroken(t *testing.T) {
	for _, broken := range []int{0, 4, 8} {
		x := made(t, 12, elseOpens(4), elseOpens(4), elseOpens(4), join(0, 10, 0), join(4, 10, 0), join(8, 10, 0))
		x.apply(t, write(256*broken+384, 1))
		want := slices.DeleteFunc([]int{0, 1024, 2048}, func(at int) bool { return at == 256*broken })
		if got := x.h.Taken(); !slices.Equal(got, want) {
			t.Errorf("Taken: %v, not %v", got, want)
		}
		if got := x.h.Pages(); !slices.Equal(got, []int{0, 4, 8}) {
			t.Errorf("Pages: %v", got)
		}
		x.wantRows(t, 10, [3]int{0, 1, 0}, [3]int{4, 1, 0}, [3]int{8, 1, 0})
	}
}

// P16.5: Check of a right list, of one that is broken in several ways, of one that was written anew, and of a page without a slab.
func TestCheck(t *testing.T) {
	x := made(t, 12, some(9, 2), elseOpens(4))
	for _, s := range []struct {
		at     int
		number uint64
		want   api.Errno
	}{
		{0, 0, api.OK},                              // a taken slot's bytes
		{256, wordOf(1, 2, 9), api.OK},              // likewise, though they look like a word
		{512, wordOf(2, 3, 8), api.ErrForm},         // another class
		{512, wordOf(3, 3, 9), api.ErrForm},         // another slot's number
		{512, wordOf(2, 3, 9) + 1<<24, api.ErrForm}, // no word
		{512, wordOf(2, 2, 9), api.ErrForm},         // round and round
		{512, wordOf(2, -1, 9), api.ErrForm},        // too short
		{512, wordOf(2, 4, 9), api.ErrForm},         // no such slot
		{512, wordOf(2, 1, 9), api.ErrForm},         // too long
		{512, wordOf(2, 3, 9), api.OK},
		{768, wordOf(3, 2, 9), api.ErrForm},
		{768, wordOf(3, -1, 9), api.OK},
		{776, 0, api.OK}, // behind the word
	} {
		x.apply(t, write(s.at, s.number))
		if errno := x.h.Check(0); errno != s.want {
			t.Errorf("Check with %x at %d: %v, not %v", s.number, s.at, errno, s.want)
		}
	}
	for _, page := range append(hostileInts(), 3, 5, 8) {
		if page != 0 {
			if errno := x.h.Check(page); errno != api.ErrNone {
				t.Errorf("Check(%d): %v", page, errno)
			}
		}
	}
	x.each(t, some(9, 2), seal(0))
	if errno := x.h.Check(0); errno != api.OK {
		t.Errorf("Check of a full and sealed one: %v", errno)
	}
}

// P16.5: what is answered may be changed, spare room too, without a change of the heap or of another answer.
func TestAnswersAreNew(t *testing.T) {
	x := made(t, 24, some(9, 7), seal(4))
	answers := func() [][]int { return [][]int{x.h.Pages(), x.h.Taken()} }
	first, second := answers(), answers()
	for k, list := range first {
		kept := slices.Clone(list)
		spoil(list)
		if !slices.Equal(second[k], kept) {
			t.Errorf("the other answer %d is %v, not %v", k, second[k], kept)
		}
	}
	rows, others := x.h.Rows(9), x.h.Rows(9)
	kept := slices.Clone(rows)
	for k := range rows[:cap(rows)] {
		rows[:cap(rows)][k] = Row{-1, -1, true}
	}
	if !slices.Equal(others, kept) {
		t.Errorf("the other rows are %v", others)
	}
	x.same(t)
	a, _ := x.h.Some(9, 3)
	b, _ := x.h.Some(9, 3)
	x.p.some(9, 6)
	spoil(a)
	if !slices.Equal(b, []int{2816, 3072, 3328}) {
		t.Errorf("the other answer is %v", b)
	}
	x.same(t)
}

// spoil writes all that a list's memory holds.
func spoil(list []int) {
	room := list[:cap(list)]
	for k := range room {
		room[k] = -99
	}
}

// P16.5: no call changes a byte but words of free slots: what clients wrote into taken slots, what is behind words, behind the last slot and outside of slabs stays. (That words are just those that the chapter asks for, same holds everywhere.)
func TestMemoryStays(t *testing.T) {
	for class, size := range classSizes() {
		x := made(t, 20)
		before := x.g.Clone().Cells()
		x.each(t, some(class, slotsIn(class)+2), give(0), give(size), seal(4), unseal(4), give(1024), give(1024+size), seal(0), leave(4), some(class, 3))
		for _, span := range x.g.Cells().Differ(before) {
			for at := span.At; at < span.At+span.N; at++ {
				if at >= 3072 || at%1024 >= slotsIn(class)*size || at%1024%size >= 8 {
					t.Fatalf("class %d: byte %d has changed", class, at)
				}
			}
		}
	}
	x := made(t, 16, some(9, 6))
	for _, at := range []int{0, 256, 512, 768, 1024, 1280} {
		for k := range 32 {
			x.apply(t, write(at+8*k, wordOf(k%4, k%3, 9)))
		}
	}
	x.each(t, take(9), give(256), give(1024), seal(0), some(9, 3), unseal(0), take(9), leave(4), give(0))
}

// P16.1 to P16.5: every row of up to four calls on three slabs of two slots; Join, the others' calls and somebody's words are among them.
func TestEveryRowOfCalls(t *testing.T) {
	walk(t, 4, 12, []call{some(11, 3)}, []call{
		take(11), some(11, 3), give(0), give(512), give(1024), seal(0), seal(4), unseal(0), unseal(4), leave(4), join(4, 11, 0), write(512, 0), write(512, wordOf(1, -1, 11)),
	})
	walk(t, 3, 12, []call{some(11, 4), take(10)}, []call{
		take(11), take(10), some(10, 9), give(0), give(512), give(1024), give(1536), give(2048), seal(0), seal(8), unseal(0), unseal(8), leave(0), leave(4), join(0, 11, 1), join(4, 10, 0, 1), elseOpens(4), write(2432, wordOf(1, 0, 10)),
	})
}

// walk: each row of up to so many of the calls, behind the first ones, on heaps made anew.
func walk(t *testing.T, depth, pages int, row, calls []call) {
	t.Helper()
	made(t, pages, row...)
	if depth == 0 {
		return
	}
	for _, c := range calls {
		walk(t, depth-1, pages, append(slices.Clone(row), c), calls)
	}
}

// P16.1 to P16.5: many changes, by calls without an order to be seen, some of which are wrong, on grounds with room and without, while clients write into what they have taken.
func TestManyChanges(t *testing.T) {
	var pick picks
	for _, pages := range []int{4, 9, 16, 40, 133} {
		for range 6 {
			x := made(t, pages)
			first := pick.below(10)
			for range 400 {
				x.apply(t, picked(&pick, x.p, first))
			}
		}
	}
}

// P16.1 to P16.5: likewise, while somebody writes into free slots, too, and makes it right again.
func TestManyChangesOfWhatSomebodyWrites(t *testing.T) {
	var pick picks
	for _, pages := range []int{4, 16, 40} {
		for range 6 {
			x := made(t, pages, take(pick.below(12)))
			first := pick.below(10)
			for range 100 {
				at := 8 * pick.below(32*pages)
				was := binary.LittleEndian.Uint64(x.p.bytes[at:])
				if s := x.p.around(at); s != nil && s.slot(at) >= 0 {
					x.apply(t, write(at, wordOf(s.slot(at), pick.below(s.slots()+1)-1, s.class)))
				} else {
					x.apply(t, write(at, 0))
				}
				for range 3 {
					x.apply(t, picked(&pick, x.p, first))
				}
				if pick.below(2) == 0 {
					x.apply(t, write(at, was))
				}
			}
		}
	}
}

// picked: a call of any kind; most classes are one of three, most pages slabs', most addresses taken slots'.
func picked(pick *picks, p *plain, first int) call {
	class := first + pick.below(3)
	switch pick.below(17) {
	case 0, 1, 2:
		return take(class)
	case 3, 4:
		return some(class, pick.below(12)-1)
	case 5, 6, 7, 8, 9, 10:
		return give(pickedAddress(pick, p))
	case 11:
		return seal(pickedPage(pick, p))
	case 12:
		return unseal(pickedPage(pick, p))
	case 13:
		return leave(pickedPage(pick, p))
	case 14:
		return pickedJoin(pick, p, class)
	case 15:
		return pickedWrite(pick, p, class)
	default:
		return elseOpens(pick.below(6))
	}
}

func pickedAddress(pick *picks, p *plain) int {
	taken := p.takenOnes()
	if len(taken) == 0 || pick.below(10) == 0 {
		return pick.below(256*p.ground.Pages()+600) - 300
	}
	return taken[pick.below(len(taken))]
}

// pickedPage: most are a slab's, sealed ones too.
func pickedPage(pick *picks, p *plain) int {
	pages := p.pages()
	if len(pages) == 0 || pick.below(10) == 0 {
		return pick.below(p.ground.Pages()+4) - 2
	}
	return pages[pick.below(len(pages))]
}

// pickedJoin: a slab of any page at which the heap has none, with any slots taken; if it has one, that leaves.
func pickedJoin(pick *picks, p *plain, class int) call {
	page := 4 * pick.below(p.ground.Pages()/4)
	if p.slabs[page] != nil {
		return leave(page)
	}
	var taken []int
	set := pick.below(1 << 16)
	for slot := range slotsIn(class) {
		if set>>(slot%16)&1 == 1 {
			taken = append(taken, slot)
		}
	}
	return join(page, class, taken...)
}

// pickedWrite: a client writes what looks like a free slot's word into its block.
func pickedWrite(pick *picks, p *plain, class int) call {
	taken := p.takenOnes()
	if len(taken) == 0 {
		return take(class)
	}
	at := taken[pick.below(len(taken))]
	s := p.around(at)
	return write(at, wordOf(s.slot(at), pick.below(s.slots()+1)-1, s.class))
}

// P16.1, P16.2: a ground of all pages, which the heap fills and gives back.
func TestTheWholeGround(t *testing.T) {
	x := made(t, 4096, some(11, 2047), take(11))
	if x.g.Free() != 0 || len(x.h.Pages()) != 1024 || x.h.Pages()[1023] != 4092 || x.h.Taken()[2047] != 1048576-512 {
		t.Fatal(x.g.Free(), len(x.h.Pages()))
	}
	x.each(t, take(11), take(0), seal(4092))
	for at := 0; at < 1048576; at += 512 {
		if errno := x.h.Give(at); errno != api.OK {
			t.Fatalf("Give(%d): %v", at, errno)
		}
		x.p.give(at)
	}
	x.same(t)
	// The first slab was the only one that was ready when its last slot was given; from then on it was another one.
	if x.g.Free() != 4092 || !slices.Equal(x.h.Pages(), []int{0}) {
		t.Errorf("%d free, %v", x.g.Free(), x.h.Pages())
	}
}

// P16.1: a ground of all pages in the smallest slots: as many as go into it, in order.
func TestTheWholeGroundInSmallSlots(t *testing.T) {
	g, _ := ground.New(4096)
	h := New(g)
	list, errno := h.Some(0, math.MaxInt)
	if len(list) != 131072 || errno != api.OK {
		t.Fatal(len(list), errno)
	}
	for k, at := range list {
		if at != 8*k {
			t.Fatalf("slot %d at %d", k, at)
		}
	}
	if _, errno := h.Some(0, 1); errno != api.ErrMemory || h.Ready(0) || g.Free() != 0 || !slices.Equal(h.Taken(), list) {
		t.Error(errno)
	}
}

// P1: calls with any numbers end, and answer as the chapter asks.
func TestAnyNumbers(t *testing.T) {
	for _, pages := range []int{0, 5, 24} {
		for _, n := range hostileInts() {
			x := made(t, pages, some(11, 3), take(0), seal(0))
			x.apply(t, some(n, n), some(n, 1), take(n), some(0, min(n, 99)), give(n), seal(n), unseal(n), leave(n), give(n))
			x.sameChecks(t, n)
			x.samePlaces(t, n)
			if rows := x.h.Rows(n); !slices.Equal(rows, x.p.rows(n)) {
				t.Errorf("Rows(%d): %v", n, rows)
			}
			if got, want := x.h.Ready(n), len(x.p.ready(n)) > 0; got != want {
				t.Errorf("Ready(%d): %v", n, got)
			}
		}
	}
}

// P1: any numbers that somebody writes anywhere into a slab: all calls end, and answer as the chapter asks.
func TestAnyWords(t *testing.T) {
	for _, class := range []int{0, 4, 9, 11} {
		size := classSizes()[class]
		for _, n := range hostileInts() {
			x := made(t, 8, some(class, 3), give(size), write(size, uint64(n)))
			x.apply(t, take(class), give(0), give(2*size), some(class, 5), seal(0), give(0), unseal(0))
			x.apply(t, write(size, wordOf(1, slotsIn(class)-1, class)), write(size*(slotsIn(class)-1), uint64(n)), take(class), give(0), leave(0))
		}
	}
}
