package newslab

import (
	"bytes"
	"encoding/binary"
	"math"
	"slices"
	"testing"

	"underpin/api"
	"underpin/cells"
	"underpin/oldslab"
)

const (
	lastBase = 1047552
	wholeMem = 1048576
	// free40 is what each word has in its highest 40 bits.
	free40 = 0x6672656521
)

// classSizes: the new layout's classes, as chapter 6 tells them.
func classSizes() []int { return []int{8, 16, 24, 32, 48, 64, 96, 128, 192, 256, 384, 512} }

// wordOf: a word, by the chapter's table, of numbers that are in bounds.
func wordOf(slot, next, class int) uint64 {
	return uint64(next+1) + 256*uint64(slot) + 65536*uint64(class) + 16777216*free40
}

func between(number, least, greatest int) bool { return least <= number && number <= greatest }

// fits: are these numbers such as a word tells?
func fits(slot, next, class int) bool {
	return between(slot, 0, 127) && between(next, -1, 127) && between(class, 0, 11)
}

// plain: what a slab, and its memory, are by the chapter.
type plain struct {
	base, class, size, slots int
	head, count              int
	bytes                    []byte
}

// newPlain: a slab has slots as long as one more ends within its 1,024 bytes; the words of those that aren't taken are written.
func newPlain(memory []byte, base, class int, taken ...int) *plain {
	p := &plain{base: base, class: class, size: classSizes()[class], head: -1, bytes: slices.Clone(memory)}
	var free []int
	for end := p.size; end <= 1024; end += p.size {
		if !slices.Contains(taken, p.slots) {
			free = append(free, p.slots)
		}
		p.slots++
	}
	for k, slot := range free {
		next := -1
		if k+1 < len(free) {
			next = free[k+1]
		}
		p.put(p.address(slot), wordOf(slot, next, class))
	}
	if p.count = len(free); p.count > 0 {
		p.head = free[0]
	}
	return p
}

func (p *plain) clone() *plain {
	q := *p
	q.bytes = slices.Clone(p.bytes)
	return &q
}

func (p *plain) address(slot int) int { return p.base + slot*p.size }

// put writes a number of 8 bytes, if all of them are in the memory.
func (p *plain) put(at int, number uint64) {
	if at >= 0 && at+8 <= len(p.bytes) {
		binary.LittleEndian.PutUint64(p.bytes[at:], number)
	}
}

// slot: the slot that begins at an address, by trying each; -1, if none does.
func (p *plain) slot(at int) int {
	for slot := range p.slots {
		if p.address(slot) == at {
			return slot
		}
	}
	return -1
}

// next: what the slot's word tells as its next one; false, if it has none that tells its number and the class.
func (p *plain) next(slot int) (int, bool) {
	at := p.address(slot)
	if !between(slot, 0, p.slots-1) || at+8 > len(p.bytes) {
		return -1, false
	}
	next := int(p.bytes[at]) - 1
	return next, fits(slot, next, p.class) && wordOf(slot, next, p.class) == binary.LittleEndian.Uint64(p.bytes[at:])
}

// list: the slots on the way from the head on, and whether they are right.
func (p *plain) list() ([]int, bool) {
	var list []int
	seen := map[int]bool{}
	for slot := p.head; slot != -1; {
		next, ok := p.next(slot)
		if !ok || seen[slot] {
			return nil, false
		}
		seen[slot] = true
		list = append(list, slot)
		slot = next
	}
	if len(list) != p.count {
		return nil, false
	}
	return list, true
}

// taken: the slots that aren't in the list, rising.
func (p *plain) taken() ([]int, bool) {
	list, right := p.list()
	var rest []int
	for slot := range p.slots {
		if right && !slices.Contains(list, slot) {
			rest = append(rest, slot)
		}
	}
	return rest, right
}

// state: layer 13's, by the count.
func (p *plain) state() int {
	switch p.count {
	case p.slots:
		return oldslab.SEmpty
	case 0:
		return oldslab.SFull
	default:
		return oldslab.SPartial
	}
}

func (p *plain) take() (int, api.Errno) {
	list, right := p.list()
	if !right {
		return -1, api.ErrForm
	}
	if len(list) == 0 {
		return -1, api.ErrFull
	}
	p.head, _ = p.next(list[0])
	p.count--
	return p.address(list[0]), api.OK
}

func (p *plain) some(n int) ([]int, api.Errno) {
	if _, right := p.list(); !right {
		return nil, api.ErrForm
	}
	var list []int
	for ; n >= 1; n-- {
		at, errno := p.take()
		if errno != api.OK {
			break
		}
		list = append(list, at)
	}
	return list, api.OK
}

func (p *plain) give(at int) api.Errno {
	list, right := p.list()
	slot := p.slot(at)
	switch {
	case !right:
		return api.ErrForm
	case slot < 0:
		return api.ErrPointer
	case slices.Contains(list, slot):
		return api.ErrTwice
	}
	p.put(at, wordOf(slot, p.head, p.class))
	p.head = slot
	p.count++
	return api.OK
}

// giveAll gives one after the other, and takes all of it back with an error.
func (p *plain) giveAll(list []int) api.Errno {
	if _, right := p.list(); !right {
		return api.ErrForm
	}
	before := p.clone()
	for _, at := range list {
		if errno := p.give(at); errno != api.OK {
			*p = *before
			return errno
		}
	}
	return api.OK
}

const (
	ofTake = iota
	ofSome
	ofGive
	ofGiveAll
	ofWrite
)

// call is one that may change a slab, or a number that somebody writes into the memory.
type call struct {
	what, n int
	list    []int
	number  uint64
}

func take() call                       { return call{what: ofTake} }
func some(n int) call                  { return call{what: ofSome, n: n} }
func give(at int) call                 { return call{what: ofGive, n: at} }
func giveAll(list ...int) call         { return call{what: ofGiveAll, list: list} }
func write(at int, number uint64) call { return call{what: ofWrite, n: at, number: number} }
func one(at int, e api.Errno) answer   { return answer{[]int{at}, e} }

func (c call) text() string {
	return [...]string{"Take", "Some", "Give", "GiveAll", "somebody writes"}[c.what]
}

// answer is what a call answers, an address as a list of one.
type answer struct {
	list  []int
	errno api.Errno
}

func (a answer) is(b answer) bool { return slices.Equal(a.list, b.list) && a.errno == b.errno }

// listed: a list, and ErrForm where it isn't right.
func listed(list []int, right bool) answer {
	if !right {
		return answer{nil, api.ErrForm}
	}
	return answer{list, api.OK}
}

func answered(list []int, errno api.Errno) answer { return answer{list, errno} }

// pair is a slab, its memory, and what both are by the chapter.
type pair struct {
	s *Slab
	c *cells.Cells
	p *plain
}

// clone: the same on a memory of its own.
func (x pair) clone() pair {
	c := x.c.Clone()
	return pair{x.s.On(c), c, x.p.clone()}
}

// on: what the slab answers to the call.
func (c call) on(x pair) answer {
	switch c.what {
	case ofTake:
		return one(x.s.Take())
	case ofSome:
		return answered(x.s.Some(c.n))
	case ofGive:
		return answer{nil, x.s.Give(c.n)}
	case ofGiveAll:
		return answer{nil, x.s.GiveAll(c.list...)}
	default:
		return answer{nil, x.c.Store(c.n, 8, c.number)}
	}
}

// told: what the chapter asks of the call.
func (c call) told(p *plain) answer {
	switch c.what {
	case ofTake:
		return one(p.take())
	case ofSome:
		return answered(p.some(c.n))
	case ofGive:
		return answer{nil, p.give(c.n)}
	case ofGiveAll:
		return answer{nil, p.giveAll(c.list)}
	default:
		p.put(c.n, c.number)
		return answer{nil, api.OK}
	}
}

// apply: calls answer as the chapter asks, and leave what it asks.
func (x pair) apply(t *testing.T, calls ...call) {
	t.Helper()
	for _, c := range calls {
		was, _ := x.p.list()
		want := c.told(x.p)
		if got := c.on(x); !got.is(want) {
			t.Fatalf("%s %+v: %v, not %v; base %d, class %d, list %v", c.text(), c, got, want, x.p.base, x.p.class, was)
		}
		x.same(t)
	}
}

// same: every call that tells something tells what the chapter asks, and so does every byte of the memory.
func (x pair) same(t *testing.T) {
	t.Helper()
	s, p := x.s, x.p
	if s.Base() != p.base || s.Class() != p.class || s.Size() != p.size || s.Slots() != p.slots {
		t.Fatalf("base %d, class %d, size %d, %d slots, not as %+v", s.Base(), s.Class(), s.Size(), s.Slots(), p)
	}
	if s.Head() != p.head || s.Free() != p.count || s.State() != p.state() {
		t.Fatalf("head %d, %d free, state %d, not %d, %d, %d", s.Head(), s.Free(), s.State(), p.head, p.count, p.state())
	}
	if got, want := answered(s.List()), listed(p.list()); !got.is(want) {
		t.Fatalf("List: %v, not %v", got, want)
	}
	if got, want := answered(s.Taken()), listed(p.taken()); !got.is(want) {
		t.Fatalf("Taken: %v, not %v", got, want)
	}
	if got, want := s.Check(), listed(p.list()).errno; got != want {
		t.Fatalf("Check: %v, not %v", got, want)
	}
	sameBytes(t, x.c, p.bytes)
}

func sameBytes(t *testing.T, c *cells.Cells, want []byte) {
	t.Helper()
	got, errno := c.Read(0, c.Len())
	if errno != api.OK {
		t.Fatal(errno)
	}
	if bytes.Equal(got, want) {
		return
	}
	for at := range want {
		if got[at] != want[at] {
			t.Fatalf("the byte %d is %d, not %d", at, got[at], want[at])
		}
	}
	t.Fatalf("%d bytes, not %d", len(got), len(want))
}

// samePlaces: Slot of the addresses, and Address of the numbers, are as the chapter asks.
func (x pair) samePlaces(t *testing.T, numbers ...int) {
	t.Helper()
	for _, n := range numbers {
		want, wantE := x.p.slot(n), api.OK
		if want < 0 {
			wantE = api.ErrPointer
		}
		if got, errno := x.s.Slot(n); got != want || errno != wantE {
			t.Fatalf("Slot(%d): %d, %v, not %d, %v; base %d, class %d", n, got, errno, want, wantE, x.p.base, x.p.class)
		}
		there := between(n, 0, x.p.slots-1)
		want = -1
		if there {
			want = x.p.address(n)
		}
		if got, ok := x.s.Address(n); got != want || ok != there {
			t.Fatalf("Address(%d): %d, %v, not %d, %v; base %d, class %d", n, got, ok, want, there, x.p.base, x.p.class)
		}
	}
}

// memory: so many bytes, none of which is 0, and neighbours of which are unlike.
func memory(t *testing.T, n int) (*cells.Cells, []byte) {
	t.Helper()
	c, errno := cells.New(n)
	if errno != api.OK {
		t.Fatal(errno)
	}
	b := make([]byte, n)
	for at := range b {
		b[at] = byte(at%251 + 3)
	}
	if errno := c.Write(0, b); errno != api.OK {
		t.Fatal(errno)
	}
	return c, b
}

// made: a slab, in a memory of 4,096 bytes, of which these slots are taken, and what it is by the chapter.
func made(t *testing.T, base, class int, taken ...int) pair {
	t.Helper()
	return madeIn(t, 4096, base, class, taken...)
}

func madeIn(t *testing.T, n, base, class int, taken ...int) pair {
	t.Helper()
	c, b := memory(t, n)
	s, errno := With(c, base, class, taken)
	if s == nil || errno != api.OK {
		t.Fatalf("With(%d, %d, %v): %v", base, class, taken, errno)
	}
	x := pair{s, c, newPlain(b, base, class, taken...)}
	x.same(t)
	return x
}

// slotsIn: how many slots a slab of a class has, by the sizes.
func slotsIn(class int) int { return 1024 / classSizes()[class] }

func counted(n int) []int {
	var list []int
	for k := range n {
		list = append(list, k)
	}
	return list
}

func reversed(list []int) []int {
	back := slices.Clone(list)
	slices.Reverse(back)
	return back
}

// slotsOf: the places of a number's bits that are set.
func slotsOf(set int) []int {
	var list []int
	for slot := range 64 {
		if set>>slot&1 == 1 {
			list = append(list, slot)
		}
	}
	return list
}

// hostileInts: numbers at which a base, a class, a slot, an address or a count may go wrong with a slab at a base.
func hostileInts(base int) []int {
	list := []int{math.MinInt, math.MinInt + 1, math.MaxInt - 1, math.MaxInt, 0x5555555555555555, -0x5555555555555556, 1000, 9999}
	for k := range 63 {
		list = append(list, 1<<k, -1<<k, 1<<k-1, 1<<k+1)
	}
	for d := -3; d <= 3; d++ {
		list = append(list, d, 16+d, 64+d, 512+d, base+d, base+16+d, base+512+d, base+1024+d, -base+d, wholeMem+d, lastBase+d)
		list = append(list, 1<<32+base+d, 1<<32+d, math.MaxInt-base+d-3, math.MinInt+base+d+3, math.MinInt+base+1024+d, math.MaxInt-1024+d)
	}
	return list
}

// picks: numbers below n by a rule without order to be seen.
type picks uint64

func (p *picks) below(n int) int {
	*p = *p*6364136223846793005 + 1442695040888963407
	return int(uint64(*p) >> 33 % uint64(n))
}

func wantWord(t *testing.T, slot, next, class int) {
	t.Helper()
	var want uint64
	ok := fits(slot, next, class)
	if ok {
		want = wordOf(slot, next, class)
	}
	if got, gotOK := Word(slot, next, class); got != want || gotOK != ok {
		t.Fatalf("Word(%d, %d, %d): %#x, %v, not %#x, %v", slot, next, class, got, gotOK, want, ok)
	}
}

// wantUnword: the numbers of which it is the word, or noughts.
func wantUnword(t *testing.T, w uint64) {
	t.Helper()
	next, slot, class := int(w%256)-1, int(w/256%256), int(w/65536%256)
	want := fits(slot, next, class) && wordOf(slot, next, class) == w
	if !want {
		slot, next, class = 0, 0, 0
	}
	if s, n, c, ok := Unword(w); s != slot || n != next || c != class || ok != want {
		t.Fatalf("Unword(%#x): %d, %d, %d, %v, not %d, %d, %d, %v", w, s, n, c, ok, slot, next, class, want)
	}
}

// P15.1: Word, written out, at the edges of each number and one beside them.
func TestWordWrittenOut(t *testing.T) {
	for _, x := range []struct {
		slot, next, class int
		word              uint64
		ok                bool
	}{
		{0, -1, 0, 0x6672656521000000, true},
		{0, 0, 0, 0x6672656521000001, true},
		{0, 127, 0, 0x6672656521000080, true},
		{127, -1, 0, 0x6672656521007f00, true},
		{127, 127, 0, 0x6672656521007f80, true},
		{0, -1, 11, 0x66726565210b0000, true},
		{127, 127, 11, 0x66726565210b7f80, true},
		{5, 5, 3, 0x6672656521030506, true},
		{18, 51, 8, 0x6672656521081234, true},
		{-1, 0, 0, 0, false}, {128, 0, 0, 0, false}, {256, 0, 0, 0, false}, {255, 0, 0, 0, false},
		{0, -2, 0, 0, false}, {0, 128, 0, 0, false}, {0, 254, 0, 0, false}, {0, 255, 0, 0, false}, {0, 256, 0, 0, false},
		{0, 0, -1, 0, false}, {0, 0, 12, 0, false}, {0, 0, 255, 0, false}, {0, 0, 256, 0, false},
		{-1, -2, -1, 0, false}, {128, 128, 12, 0, false}, {127, 128, 11, 0, false}, {128, 127, 11, 0, false}, {127, 127, 12, 0, false},
		{math.MinInt, 0, 0, 0, false}, {math.MaxInt, 0, 0, 0, false}, {0, math.MinInt, 0, 0, false}, {0, math.MaxInt, 0, 0, false}, {0, 0, math.MinInt, 0, false}, {0, 0, math.MaxInt, 0, false},
	} {
		if got, ok := Word(x.slot, x.next, x.class); got != x.word || ok != x.ok {
			t.Errorf("Word(%d, %d, %d): %#x, %v, not %#x, %v", x.slot, x.next, x.class, got, ok, x.word, x.ok)
		}
	}
}

// P15.1: every word there and back, and every number up to beyond its bounds.
func TestEveryWord(t *testing.T) {
	for class := -3; class <= 14; class++ {
		for slot := -3; slot <= 130; slot++ {
			for next := -4; next <= 130; next++ {
				wantWord(t, slot, next, class)
				if !fits(slot, next, class) {
					continue
				}
				w, _ := Word(slot, next, class)
				if s, n, c, ok := Unword(w); !ok || s != slot || n != next || c != class {
					t.Fatalf("Unword(%#x): %d, %d, %d, %v, not %d, %d, %d", w, s, n, c, ok, slot, next, class)
				}
			}
		}
	}
}

// P15.1, P1: Word of any numbers, in each place alone and in all of them.
func TestWordOfAnyNumbers(t *testing.T) {
	for _, n := range hostileInts(0) {
		for _, right := range []int{-1, 0, 1, 11, 127} {
			wantWord(t, n, right, max(right, 0))
			wantWord(t, max(right, 0), n, 11)
			wantWord(t, max(right, 0), right, n)
		}
		wantWord(t, n, n, n)
		wantWord(t, n, -n, n)
	}
}

// P15.1: Unword, written out, of what is no word: each field one beside, another mark, noughts, all bits set.
func TestUnwordOfNoWords(t *testing.T) {
	const fine = 0x6672656521000000
	for _, w := range []uint64{
		0, 1, math.MaxUint64, 1 << 63,
		fine + 129, fine + 130, fine + 255,
		fine + 256*128, fine + 256*129, fine + 256*255,
		fine + 65536*12, fine + 65536*13, fine + 65536*255,
		fine + 129 + 256*127 + 65536*11, fine + 128 + 256*128 + 65536*11, fine + 128 + 256*127 + 65536*12,
		0x6672656520000000, 0x6672656522000000, 0x6672656420000000, 0x6572656521000000, 0x6772656521000000,
		0x0072656521000000, 0x6672656500000000, 0x2165657266000000, 0x6672656521, 0x667265652100, 0x000b018066726565, fine - 1, fine + 1<<24,
		^uint64(fine),
	} {
		if s, n, c, ok := Unword(w); s != 0 || n != 0 || c != 0 || ok {
			t.Errorf("Unword(%#x): %d, %d, %d, %v", w, s, n, c, ok)
		}
	}
	for _, x := range []struct {
		w                 uint64
		slot, next, class int
	}{{fine, 0, -1, 0}, {fine + 128, 0, 127, 0}, {fine + 256*127, 127, -1, 0}, {fine + 65536*11, 0, -1, 11}, {fine + 0x0b7f80, 127, 127, 11}, {fine + 0x0a0b0c, 11, 11, 10}} {
		if s, n, c, ok := Unword(x.w); s != x.slot || n != x.next || c != x.class || !ok {
			t.Errorf("Unword(%#x): %d, %d, %d, %v", x.w, s, n, c, ok)
		}
	}
}

// P15.1: Unword of words of which one bit, or one byte, is another.
func TestUnwordOfChangedWords(t *testing.T) {
	for _, class := range []int{0, 1, 7, 8, 11} {
		for _, slot := range []int{0, 1, 63, 64, 126, 127} {
			for _, next := range []int{-1, 0, 62, 63, 126, 127} {
				w := wordOf(slot, next, class)
				for bit := range 64 {
					wantUnword(t, w^1<<bit)
				}
				for at := 0; at < 64; at += 8 {
					for b := range 256 {
						wantUnword(t, w&^(255<<at)|uint64(b)<<at)
					}
				}
			}
		}
	}
}

// P15.1: Unword of every two of the low fields, the third at its edges and beyond.
func TestUnwordOfEveryField(t *testing.T) {
	edges := []uint64{0, 1, 11, 12, 127, 128, 129, 255}
	for a := range uint64(256) {
		for b := range uint64(256) {
			for _, c := range edges {
				wantUnword(t, a+256*b+65536*c+16777216*free40)
				wantUnword(t, a+256*c+65536*b+16777216*free40)
				wantUnword(t, c+256*a+65536*b+16777216*free40)
			}
		}
	}
}

// P15.1, P1: Unword of any numbers.
func TestUnwordOfAnyNumbers(t *testing.T) {
	for _, n := range hostileInts(lastBase) {
		wantUnword(t, uint64(n))
	}
	var pick picks
	for range 20000 {
		w := uint64(pick.below(1<<31)) << 33
		w ^= uint64(pick.below(1<<31)) << 12
		w ^= uint64(pick.below(1 << 31))
		wantUnword(t, w)
		wantUnword(t, w&0xffffff|free40<<24)
		wantUnword(t, w&0x0f7f7f|free40<<24)
	}
}

// P15.2: New at each base of a memory, of each class: as told, all slots free, their words written, and no other byte.
func TestNew(t *testing.T) {
	slots := []int{128, 64, 42, 32, 21, 16, 10, 8, 5, 4, 2, 2}
	for class, size := range classSizes() {
		for _, base := range []int{0, 1024, 2048, 3072} {
			c, b := memory(t, 4096)
			s, errno := New(c, base, class)
			if s == nil || errno != api.OK {
				t.Fatalf("New(%d, %d): %v, %v", base, class, s, errno)
			}
			if s.Size() != size || s.Slots() != slots[class] || s.Free() != slots[class] || s.State() != 0 || s.Head() != 0 {
				t.Fatalf("New(%d, %d): %d slots of %d bytes, %d free, state %d, head %d", base, class, s.Slots(), s.Size(), s.Free(), s.State(), s.Head())
			}
			if list, errno := s.List(); errno != api.OK || !slices.Equal(list, counted(slots[class])) {
				t.Fatalf("New(%d, %d): list %v, %v", base, class, list, errno)
			}
			if taken, errno := s.Taken(); errno != api.OK || len(taken) != 0 {
				t.Fatalf("New(%d, %d): taken %v, %v", base, class, taken, errno)
			}
			pair{s, c, newPlain(b, base, class)}.same(t)
		}
	}
}

// P15.2: the words of New, written out.
func TestNewWrittenOut(t *testing.T) {
	c, b := memory(t, 3072)
	if _, errno := New(c, 1024, 9); errno != api.OK {
		t.Fatal(errno)
	}
	for k, w := range []uint64{0x6672656521090002, 0x6672656521090103, 0x6672656521090204, 0x6672656521090300} {
		binary.LittleEndian.PutUint64(b[1024+256*k:], w)
	}
	sameBytes(t, c, b)
	if got, _ := c.Read(1024, 9); !bytes.Equal(got, []byte{2, 0, 9, 0x21, 0x65, 0x65, 0x72, 0x66, b[1032]}) {
		t.Errorf("the first word is %v", got)
	}
}

// P15.2: New and With in the greatest memory: at its first bases, its last ones, and some between them.
func TestNewInTheGreatestMemory(t *testing.T) {
	for _, base := range []int{0, 1024, 65536, 523264, 524288, 1046528, lastBase} {
		for _, class := range []int{0, 2, 8, 11} {
			x := madeIn(t, wholeMem, base, class)
			x.apply(t, take(), take(), give(base))
			madeIn(t, wholeMem, base, class, 1)
		}
	}
}

// wantNone: New and With are ErrRange and nil, whatever the list, and nothing is written.
func wantNone(t *testing.T, n, base, class int) {
	t.Helper()
	c, b := memory(t, n)
	if s, errno := New(c, base, class); s != nil || errno != api.ErrRange {
		t.Errorf("%d bytes: New(%d, %d): %v, %v", n, base, class, s, errno)
	}
	for _, list := range [][]int{nil, {}, {0}, {0, 1}, {-1}, {1, 1}, {128}, {math.MaxInt}, {math.MinInt}} {
		if s, errno := With(c, base, class, list); s != nil || errno != api.ErrRange {
			t.Errorf("%d bytes: With(%d, %d, %v): %v, %v", n, base, class, list, s, errno)
		}
	}
	sameBytes(t, c, b)
}

// P15.2: bases and classes out of bounds, at their edges, one by one and both.
func TestNewOutOfBounds(t *testing.T) {
	wrong := []int{-1024, -1, 1, 8, 256, 512, 1023, 1025, 1536, 3071, 3073, 3584, 4095, 4096, 4097, 5120, -512, -2048, -4096, 1 << 20, lastBase, 1 << 32, 1<<32 + 1024, 1 << 62, math.MaxInt, math.MaxInt - 1023, math.MinInt, math.MinInt + 1024}
	classes := []int{-1, 12, 13, 15, 16, 64, -12, 256, 1 << 32, 1<<32 + 3, math.MinInt, math.MaxInt}
	for _, base := range wrong {
		for class := range 12 {
			wantNone(t, 4096, base, class)
		}
		for _, class := range classes {
			wantNone(t, 4096, base, class)
		}
	}
	for _, class := range classes {
		for base := 0; base < 4096; base += 1024 {
			wantNone(t, 4096, base, class)
		}
	}
	for _, base := range []int{wholeMem, wholeMem - 1023, wholeMem - 1025, wholeMem + 1024, lastBase + 1} {
		wantNone(t, wholeMem, base, 0)
	}
}

// P15.2: a memory that doesn't reach to 1,024 bytes behind the base, by one byte and by more, though all slots would go into it; and one that just does.
func TestNewAtTheMemorysEnd(t *testing.T) {
	for _, base := range []int{0, 1024, 2048, 7168} {
		for class := range classSizes() {
			for _, left := range []int{-base, -1, 0, 1, 8, 512, 1008, 1016, 1020, 1022, 1023} {
				if base+left >= 0 {
					wantNone(t, base+left, base, class)
				}
			}
			for _, left := range []int{1024, 1025, 1500, 2048} {
				x := madeIn(t, base+left, base, class)
				x.apply(t, some(2), giveAll(base))
			}
		}
	}
}

// P15.2, P1: New of any numbers.
func TestNewOfAnyNumbers(t *testing.T) {
	for _, n := range []int{0, 1023, 1024, 5000} {
		c, _ := memory(t, n)
		for _, base := range hostileInts(3072) {
			for _, class := range hostileInts(0) {
				right := base >= 0 && base%1024 == 0 && base <= n-1024 && between(class, 0, 11)
				s, errno := New(c, base, class)
				if right && (s == nil || errno != api.OK) || !right && (s != nil || errno != api.ErrRange) {
					t.Fatalf("%d bytes: New(%d, %d): %v, %v", n, base, class, s, errno)
				}
			}
		}
	}
}

// P15.2: each New has a list of its own: slabs side by side on one memory go on apart.
func TestNewApart(t *testing.T) {
	c, b := memory(t, 3072)
	p := newPlain(b, 1024, 8)
	s, _ := New(c, 1024, 8)
	for base := 0; base <= 2048; base += 2048 {
		p = newPlain(p.bytes, base, 0)
		beside, errno := New(c, base, 0)
		if errno != api.OK {
			t.Fatal(errno)
		}
		beside.Some(100)
		p.some(100)
		if errno := beside.GiveAll(base+8, base+96*8); errno != api.OK {
			t.Fatal(errno)
		}
		p.giveAll([]int{base + 8, base + 96*8})
		pair{beside, c, p}.same(t)
	}
	x := pair{s, c, newPlain(p.bytes, 1024, 8)}
	x.apply(t, take(), take(), give(1024), some(9), giveAll(1216, 1024))
}

// P15.2: With of no taken slot, of one, of all, of all but one, in any order; and of every set of few slots.
func TestWith(t *testing.T) {
	for class := range classSizes() {
		all := counted(slotsIn(class))
		back := reversed(all)
		for _, base := range []int{0, 1024, 3072} {
			made(t, base, class)
			made(t, base, class, []int{}...)
			made(t, base, class, all...)
			made(t, base, class, back...)
			made(t, base, class, all[1:]...)
			made(t, base, class, back[1:]...)
			for _, slot := range all {
				made(t, base, class, slot)
			}
		}
	}
	for set := range 1 << 5 {
		made(t, 1024, 8, slotsOf(set)...)
		made(t, 1024, 8, reversed(slotsOf(set))...)
	}
}

// P15.2: With, written out: the words of the others, in rising order; no byte of the taken ones.
func TestWithWrittenOut(t *testing.T) {
	c, b := memory(t, 2048)
	s, errno := With(c, 1024, 8, []int{3, 0})
	if errno != api.OK || s.Head() != 1 || s.Free() != 3 || s.State() != 1 {
		t.Fatal(s, errno)
	}
	if list, errno := s.List(); errno != api.OK || !slices.Equal(list, []int{1, 2, 4}) {
		t.Error(list, errno)
	}
	if taken, errno := s.Taken(); errno != api.OK || !slices.Equal(taken, []int{0, 3}) {
		t.Error(taken, errno)
	}
	for at, w := range map[int]uint64{1216: 0x6672656521080103, 1408: 0x6672656521080205, 1792: 0x6672656521080400} {
		binary.LittleEndian.PutUint64(b[at:], w)
	}
	sameBytes(t, c, b)
}

// P15.2: With of a number that is no slot, or that stands twice, in the first place, between others, and in the last one: nothing is written.
func TestWithOfWrongLists(t *testing.T) {
	for class := range classSizes() {
		n := slotsIn(class)
		all := counted(n)
		for _, wrong := range []int{-1, n, n + 1, 128, -n, 1 << 32, math.MinInt, math.MaxInt} {
			for place := range min(n, 10) + 1 {
				wantForm(t, class, slices.Insert(counted(min(n, 10)), place, wrong))
			}
			wantForm(t, class, []int{wrong})
			wantForm(t, class, []int{wrong, wrong})
			wantForm(t, class, append(slices.Clone(all), wrong))
		}
		for _, slot := range all {
			wantForm(t, class, append(slices.Clone(all), slot))
			wantForm(t, class, append([]int{slot}, all...))
			wantForm(t, class, []int{slot, slot})
		}
		wantForm(t, class, append(slices.Clone(all), all...))
		for _, slot := range hostileInts(1024) {
			if !between(slot, 0, n-1) {
				wantForm(t, class, []int{0, slot})
				continue
			}
			made(t, 1024, class, slot)
		}
	}
}

func wantForm(t *testing.T, class int, list []int) {
	t.Helper()
	handed := slices.Clone(list)
	c, b := memory(t, 3072)
	for _, base := range []int{0, 1024, 2048} {
		if s, errno := With(c, base, class, handed); s != nil || errno != api.ErrForm {
			t.Errorf("With(%d, %d, %v): %v, %v", base, class, list, s, errno)
		}
	}
	if !slices.Equal(list, handed) {
		t.Errorf("With changed %v to %v", list, handed)
	}
	sameBytes(t, c, b)
}

// P15.2: the list that is handed in is neither changed nor kept, nor what lies behind its length.
func TestWithKeepsNoList(t *testing.T) {
	room := []int{5, 0, 3, 7, 7}
	c, b := memory(t, 2048)
	s, errno := With(c, 1024, 7, room[:3])
	if errno != api.OK || !slices.Equal(room, []int{5, 0, 3, 7, 7}) {
		t.Fatal(errno, room)
	}
	x := pair{s, c, newPlain(b, 1024, 7, 0, 3, 5)}
	x.same(t)
	room[0], room[1], room[2] = 1, 2, 2
	x.same(t)
	x.apply(t, take(), give(1024+3*128))
	if !slices.Equal(room, []int{1, 2, 2, 7, 7}) {
		t.Errorf("the list is %v", room)
	}
}

// P15.2: what stood in the memory before, words of other slabs too, doesn't matter to a new slab.
func TestWithOverOtherSlabs(t *testing.T) {
	for _, before := range []int{0, 1, 8, 11} {
		for _, class := range []int{0, 2, 8, 11} {
			old := made(t, 1024, before)
			for _, taken := range [][]int{nil, {1}, {0}} {
				p := newPlain(old.p.bytes, 1024, class, taken...)
				s, errno := With(old.c, 1024, class, taken)
				if errno != api.OK {
					t.Fatal(errno)
				}
				x := pair{s, old.c, p}
				x.same(t)
				old.p.bytes = slices.Clone(p.bytes)
			}
		}
	}
}

// P15.2: every address from well below the slab to well behind it; every number from below 0 to well behind the last slot.
func TestPlaces(t *testing.T) {
	for class := range classSizes() {
		for _, base := range []int{0, 1024, 3072, lastBase} {
			n := 4096
			if base == lastBase {
				n = wholeMem
			}
			x := madeIn(t, n, base, class, 1)
			for at := base - 1040; at < base+2080; at++ {
				x.samePlaces(t, at)
			}
			for slot := -140; slot < 270; slot++ {
				x.samePlaces(t, slot)
			}
			x.samePlaces(t, hostileInts(base)...)
			x.same(t)
		}
	}
}

// P15.2: written out: the first and the last slot, within one, below the base, behind the last slot, beyond the slab.
func TestSlotWrittenOut(t *testing.T) {
	x := made(t, 1024, 8, 0, 2)
	for _, y := range []struct {
		at, want int
		errno    api.Errno
	}{
		{1024, 0, api.OK}, {1216, 1, api.OK}, {1408, 2, api.OK}, {1792, 4, api.OK},
		{1025, -1, api.ErrPointer}, {1100, -1, api.ErrPointer}, {1215, -1, api.ErrPointer}, {1793, -1, api.ErrPointer}, {1983, -1, api.ErrPointer},
		{1023, -1, api.ErrPointer}, {832, -1, api.ErrPointer}, {0, -1, api.ErrPointer}, {-1, -1, api.ErrPointer}, {-1024, -1, api.ErrPointer},
		{1984, -1, api.ErrPointer}, {2000, -1, api.ErrPointer}, {2047, -1, api.ErrPointer},
		{2048, -1, api.ErrPointer}, {2176, -1, api.ErrPointer}, {1048576, -1, api.ErrPointer},
		{math.MinInt, -1, api.ErrPointer}, {math.MinInt + 1024, -1, api.ErrPointer}, {math.MaxInt, -1, api.ErrPointer},
	} {
		if got, errno := x.s.Slot(y.at); got != y.want || errno != y.errno {
			t.Errorf("Slot(%d): %d, %v, not %d, %v", y.at, got, errno, y.want, y.errno)
		}
	}
	for slot, want := range map[int]int{0: 1024, 1: 1216, 4: 1792, -1: -1, 5: -1, 6: -1, math.MinInt: -1, math.MaxInt: -1, 1 << 58: -1} {
		if got, ok := x.s.Address(slot); got != want || ok != (want >= 0) {
			t.Errorf("Address(%d): %d, %v", slot, got, ok)
		}
	}
}

// P15.1 to P15.4: the chapter's examples.
func TestExample(t *testing.T) {
	c, _ := cells.New(1024)
	s, errno := New(c, 0, 11)
	if errno != api.OK || s.Slots() != 2 {
		t.Fatal(errno, s)
	}
	if w, errno := c.Load(0, 8); errno != api.OK || w != 2+256*0+65536*11+1<<24*0x6672656521 {
		t.Errorf("the word of 0 is %#x, %v", w, errno)
	}
	for _, want := range []int{0, 512} {
		if at, errno := s.Take(); at != want || errno != api.OK {
			t.Errorf("Take: %d, %v, not %d", at, errno, want)
		}
	}
	for _, at := range []int{0, 512} {
		if errno := s.Give(at); errno != api.OK {
			t.Errorf("Give(%d): %v", at, errno)
		}
	}
	if list, errno := s.List(); s.Head() != 1 || errno != api.OK || !slices.Equal(list, []int{1, 0}) {
		t.Errorf("Head %d, List %v, %v", s.Head(), list, errno)
	}
}

// P15.3: Take until none is free, of each class, and once more: ErrFull, and nothing changes.
func TestTakeUntilFull(t *testing.T) {
	for class, size := range classSizes() {
		for _, base := range []int{0, 1024, 3072} {
			x := made(t, base, class)
			for k := range x.s.Slots() {
				if at, errno := x.s.Take(); at != base+k*size || errno != api.OK {
					t.Fatalf("class %d: Take: %d, %v", class, at, errno)
				}
				x.p.take()
				x.same(t)
			}
			for range 3 {
				if at, errno := x.s.Take(); at != -1 || errno != api.ErrFull {
					t.Fatalf("class %d: Take of a full slab: %d, %v", class, at, errno)
				}
				x.same(t)
			}
		}
	}
}

// P15.3: the slot that was given last is taken first; the head's word tells which one is the head then.
func TestTakeTheHead(t *testing.T) {
	for class := range classSizes() {
		n := slotsIn(class)
		for slot := range n {
			x := made(t, 2048, class, counted(n)...)
			at := x.p.address(slot)
			x.apply(t, give(at), take(), take(), give(x.p.address(n-1)), give(x.p.address(0)), give(at), take(), take(), take(), take())
		}
	}
	x := made(t, 0, 0, counted(128)...)
	for _, at := range []int{8 * 40, 8 * 127, 8 * 7, 0} {
		if errno := x.s.Give(at); errno != api.OK {
			t.Fatal(errno)
		}
	}
	for k, want := range []int{0, 8 * 7, 8 * 127, 8 * 40} {
		if at, errno := x.s.Take(); at != want || errno != api.OK {
			t.Errorf("Take: %d, %v, not %d", at, errno, want)
		}
		if head := []int{7, 127, 40, -1}[k]; x.s.Head() != head || x.s.Free() != 3-k {
			t.Errorf("Head %d, Free %d, not %d, %d", x.s.Head(), x.s.Free(), head, 3-k)
		}
	}
}

// P15.3: Some of a number below 0, of 0, 1, as many as are free, and more, with all, some, one and no slots free.
func TestSome(t *testing.T) {
	for class := range classSizes() {
		all := counted(slotsIn(class))
		for _, taken := range [][]int{nil, {0}, {1}, all[:len(all)-1], all[1:], all} {
			free := len(all) - len(taken)
			for _, n := range []int{math.MinInt, -free, -2, -1, 0, 1, 2, 3, free - 2, free - 1, free, free + 1, free + 2, 128, 129, 1 << 20, 1 << 32, math.MaxInt - 1, math.MaxInt} {
				x := made(t, 1024, class, taken...)
				x.apply(t, some(n), some(1), some(n))
			}
		}
	}
}

// P15.3: Some, written out: those taken one after the other, in the list's order.
func TestSomeWrittenOut(t *testing.T) {
	x := made(t, 1024, 8, 0, 2)
	if errno := x.s.GiveAll(1408, 1024); errno != api.OK {
		t.Fatal(errno)
	}
	for _, y := range []struct {
		n    int
		want []int
		head int
	}{{-1, nil, 0}, {0, nil, 0}, {math.MinInt, nil, 0}, {2, []int{1024, 1408}, 1}, {1, []int{1216}, 3}, {9, []int{1600, 1792}, -1}, {1, nil, -1}, {math.MaxInt, nil, -1}} {
		if got, errno := x.s.Some(y.n); !slices.Equal(got, y.want) || errno != api.OK || x.s.Head() != y.head {
			t.Errorf("Some(%d): %v, %v, head %d, not %v, %d", y.n, got, errno, x.s.Head(), y.want, y.head)
		}
	}
	if x.s.State() != oldslab.SFull || x.s.Free() != 0 {
		t.Errorf("state %d, %d free", x.s.State(), x.s.Free())
	}
	whole := made(t, 1024, 8)
	if got, errno := whole.s.Some(math.MaxInt); errno != api.OK || !slices.Equal(got, []int{1024, 1216, 1408, 1600, 1792}) {
		t.Errorf("Some of all: %v, %v", got, errno)
	}
}

// P15.3: Give of each slot, taken and free, once and twice; of addresses at which none begins.
func TestGive(t *testing.T) {
	for class := range classSizes() {
		n := slotsIn(class)
		for _, base := range []int{0, 1024, 3072} {
			x := made(t, base, class, counted(n)...)
			for slot := range n {
				at := x.p.address(slot)
				x.apply(t, give(at), give(at), give(at+1), give(at-1))
			}
			x.apply(t, give(x.p.address(n)), give(base+1024), give(base-1), give(base-x.p.size), give(-1), give(math.MinInt), give(math.MaxInt))
			y := made(t, base, class)
			for slot := range n {
				y.apply(t, give(y.p.address(slot)))
			}
		}
	}
}

// P15.3: Give, written out, with its errors, and the word that the slot then has.
func TestGiveWrittenOut(t *testing.T) {
	x := made(t, 1024, 8, 0, 1, 4)
	for _, y := range []struct {
		at    int
		errno api.Errno
		list  []int
		word  uint64
	}{
		{1408, api.ErrTwice, []int{2, 3}, 0x6672656521080204},
		{1600, api.ErrTwice, []int{2, 3}, 0x6672656521080300},
		{1100, api.ErrPointer, []int{2, 3}, 0},
		{1984, api.ErrPointer, []int{2, 3}, 0},
		{2048, api.ErrPointer, []int{2, 3}, 0},
		{832, api.ErrPointer, []int{2, 3}, 0},
		{1216, api.OK, []int{1, 2, 3}, 0x6672656521080103},
		{1216, api.ErrTwice, []int{1, 2, 3}, 0x6672656521080103},
		{1792, api.OK, []int{4, 1, 2, 3}, 0x6672656521080402},
		{1024, api.OK, []int{0, 4, 1, 2, 3}, 0x6672656521080005},
		{1024, api.ErrTwice, []int{0, 4, 1, 2, 3}, 0x6672656521080005},
	} {
		if errno := x.s.Give(y.at); errno != y.errno {
			t.Errorf("Give(%d): %v, not %v", y.at, errno, y.errno)
		}
		if list, errno := x.s.List(); errno != api.OK || !slices.Equal(list, y.list) || x.s.Head() != y.list[0] || x.s.Free() != len(y.list) {
			t.Errorf("Give(%d): list %v, %v, head %d, %d free", y.at, list, errno, x.s.Head(), x.s.Free())
		}
		if w, _ := x.c.Load(y.at, 8); y.errno != api.ErrPointer && w != y.word {
			t.Errorf("Give(%d): the word is %#x, not %#x", y.at, w, y.word)
		}
		x.p.give(y.at)
		x.same(t)
	}
	full := made(t, 1024, 8, counted(5)...)
	if errno := full.s.Give(1408); errno != api.OK {
		t.Error(errno)
	}
	if w, _ := full.c.Load(1408, 8); w != 0x6672656521080200 {
		t.Errorf("the only word is %#x", w)
	}
}

// P15.3, P1: Give of any numbers, of slabs that are empty, partial and full.
func TestGiveOfAnyNumbers(t *testing.T) {
	for _, class := range []int{0, 2, 5, 8, 11} {
		all := counted(slotsIn(class))
		for _, base := range []int{0, 1024} {
			for _, taken := range [][]int{nil, {0}, all} {
				x := madeIn(t, 2048, base, class, taken...)
				for _, at := range hostileInts(base) {
					x.apply(t, give(at), giveAll(at, at), giveAll(at))
				}
			}
		}
	}
}

// P15.3: GiveAll of no address, of one, of several in any order, of all.
func TestGiveAll(t *testing.T) {
	for class, size := range classSizes() {
		n := slotsIn(class)
		var all []int
		for slot := range n {
			all = append(all, 1024+slot*size)
		}
		back := reversed(all)
		for _, list := range [][]int{nil, {}, all, back, all[1:], back[1:], all[:1], back[:1], append(slices.Clone(all[n/2:]), all[:n/2]...)} {
			x := made(t, 1024, class, counted(n)...)
			x.apply(t, giveAll(list...), giveAll(list...), take(), giveAll())
		}
	}
}

// P15.3: GiveAll with an error first, in the middle and last: an address that stands twice, that is free, at which none begins; nothing changes, no byte either.
func TestGiveAllWithErrors(t *testing.T) {
	fine := []int{1792, 1024, 1600}
	for _, y := range []struct {
		wrong int
		errno api.Errno
	}{
		{1408, api.ErrTwice},
		{1100, api.ErrPointer}, {1984, api.ErrPointer}, {2048, api.ErrPointer}, {832, api.ErrPointer}, {-1, api.ErrPointer}, {math.MinInt, api.ErrPointer}, {math.MaxInt, api.ErrPointer},
		{1792, api.ErrTwice}, {1024, api.ErrTwice}, {1600, api.ErrTwice},
	} {
		for place := range len(fine) + 1 {
			x := made(t, 1024, 8, 0, 1, 3, 4)
			list := slices.Insert(slices.Clone(fine), place, y.wrong)
			handed := slices.Clone(list)
			if errno := x.s.GiveAll(handed...); errno != y.errno {
				t.Errorf("GiveAll(%v): %v, not %v", list, errno, y.errno)
			}
			x.same(t)
			if !slices.Equal(handed, list) {
				t.Errorf("GiveAll changed %v to %v", list, handed)
			}
			x.apply(t, giveAll(list...), giveAll(fine...))
		}
	}
}

// P15.3: where several addresses have errors, the first one's is answered; one that stands twice has its error at its second place.
func TestGiveAllFirstError(t *testing.T) {
	for _, y := range []struct {
		list  []int
		errno api.Errno
	}{
		{[]int{1408, 7}, api.ErrTwice},
		{[]int{7, 1408}, api.ErrPointer},
		{[]int{1024, 7, 1024}, api.ErrPointer},
		{[]int{1024, 1024, 7}, api.ErrTwice},
		{[]int{1024, 1216, 7, 1216, 1408}, api.ErrPointer},
		{[]int{1024, 1216, 1216, 7, 1408}, api.ErrTwice},
		{[]int{1408, 1408}, api.ErrTwice},
		{[]int{7, 7}, api.ErrPointer},
		{[]int{1024, 1216, 1408, 1984}, api.ErrTwice},
		{[]int{1024, 1216, 1984, 1408}, api.ErrPointer},
	} {
		x := made(t, 1024, 8, 0, 1)
		if errno := x.s.GiveAll(y.list...); errno != y.errno {
			t.Errorf("GiveAll(%v): %v, not %v", y.list, errno, y.errno)
		}
		x.same(t)
	}
}

// P15.3: every row of up to three addresses, of each set of taken slots of few, is given as one after the other, or not at all.
func TestGiveAllOfEveryList(t *testing.T) {
	addresses := []int{1024, 1280, 1536, 2048, 1025, 768}
	for set := range 1 << 4 {
		first := made(t, 1024, 9, slotsOf(set)...)
		walkLists(3, addresses, nil, func(list []int) {
			first.clone().apply(t, giveAll(list...))
		})
		first.same(t)
	}
}

// walkLists: each list of up to so many of the numbers.
func walkLists(depth int, numbers, list []int, do func(list []int)) {
	do(list)
	if depth == 0 {
		return
	}
	for _, n := range numbers {
		walkLists(depth-1, numbers, append(slices.Clone(list), n), do)
	}
}

// P15.3: the list that is handed to GiveAll is neither changed nor kept.
func TestGiveAllKeepsNoList(t *testing.T) {
	room := []int{1792, 1024, 1216, 1600}
	x := made(t, 1024, 8, counted(5)...)
	if errno := x.s.GiveAll(room[:2]...); errno != api.OK || !slices.Equal(room, []int{1792, 1024, 1216, 1600}) {
		t.Fatal(errno, room)
	}
	x.p.giveAll([]int{1792, 1024})
	room[0], room[1] = 1408, 1408
	x.same(t)
	x.apply(t, take(), take(), take())
	if !slices.Equal(room, []int{1408, 1408, 1216, 1600}) {
		t.Errorf("the list is %v", room)
	}
}

// P15.4: Head, Free, State, List and Taken, written out, with no slot in the list, one, several and all.
func TestToldWrittenOut(t *testing.T) {
	for _, y := range []struct {
		class             int
		taken, given      []int
		head, free, state int
		list, rest        []int
	}{
		{8, nil, nil, 0, 5, 0, []int{0, 1, 2, 3, 4}, nil},
		{8, []int{0}, nil, 1, 4, 1, []int{1, 2, 3, 4}, []int{0}},
		{8, []int{4, 2}, nil, 0, 3, 1, []int{0, 1, 3}, []int{2, 4}},
		{8, []int{0, 1, 3, 4}, nil, 2, 1, 1, []int{2}, []int{0, 1, 3, 4}},
		{8, []int{4, 3, 2, 1, 0}, nil, -1, 0, 2, nil, []int{0, 1, 2, 3, 4}},
		{8, []int{0, 1, 2, 3, 4}, []int{1408, 1024, 1792}, 4, 3, 1, []int{4, 0, 2}, []int{1, 3}},
		{8, []int{0, 1, 2, 3, 4}, []int{1024, 1216, 1408, 1600, 1792}, 4, 5, 0, []int{4, 3, 2, 1, 0}, nil},
		{0, counted(127), nil, 127, 1, 1, []int{127}, counted(127)},
		{0, counted(128), []int{1024, 2040}, 127, 2, 1, []int{127, 0}, counted(127)[1:]},
		{11, []int{0}, []int{1024}, 0, 2, 0, []int{0, 1}, nil},
		{11, []int{1}, []int{1536}, 1, 2, 0, []int{1, 0}, nil},
		{11, []int{0, 1}, nil, -1, 0, 2, nil, []int{0, 1}},
	} {
		s := made(t, 1024, y.class, y.taken...).s
		if errno := s.GiveAll(y.given...); errno != api.OK {
			t.Fatal(errno)
		}
		if s.Head() != y.head || s.Free() != y.free || s.State() != y.state {
			t.Errorf("class %d, %v, %v: head %d, %d free, state %d", y.class, y.taken, y.given, s.Head(), s.Free(), s.State())
		}
		if got := answered(s.List()); !got.is(answer{y.list, api.OK}) {
			t.Errorf("class %d, %v, %v: list %v", y.class, y.taken, y.given, got)
		}
		if got := answered(s.Taken()); !got.is(answer{y.rest, api.OK}) {
			t.Errorf("class %d, %v, %v: taken %v", y.class, y.taken, y.given, got)
		}
		if errno := s.Check(); errno != api.OK {
			t.Errorf("class %d, %v, %v: Check: %v", y.class, y.taken, y.given, errno)
		}
	}
}

// P15.4: what is answered may be changed, spare room too, without a change of the slab or of another answer.
func TestAnswersAreNew(t *testing.T) {
	x := made(t, 1024, 4, 0, 3, 7)
	for _, tell := range []func() ([]int, api.Errno){x.s.List, x.s.Taken} {
		first, _ := tell()
		second, _ := tell()
		want := slices.Clone(second)
		spoil(first)
		if !slices.Equal(second, want) {
			t.Errorf("the other list is %v", second)
		}
		x.same(t)
	}
	first, _ := x.s.Some(3)
	second, _ := x.s.Some(2)
	x.p.some(5)
	spoil(first)
	if !slices.Equal(second, []int{1024 + 5*48, 1024 + 6*48}) {
		t.Errorf("the other list is %v", second)
	}
	x.same(t)
	x.apply(t, take(), giveAll(1024))
}

// spoil writes all that a list's memory holds.
func spoil(list []int) {
	room := list[:cap(list)]
	for k := range room {
		room[k] = -99
	}
}

// P15.3: bytes in taken slots may be anything: words of their own slot, of others, of another class, of none; calls go on as if they were none.
func TestBytesOfTakenSlots(t *testing.T) {
	for class := range classSizes() {
		n := slotsIn(class)
		for _, taken := range [][]int{{0}, {n - 1}, {0, n - 1}, counted(n)[1:], counted(n)} {
			for _, w := range []uint64{0, math.MaxUint64, free40 << 24, wordOf(0, -1, class), wordOf(n-1, 0, class), wordOf(n-1, n-1, class), wordOf(0, n-1, (class+1)%12)} {
				x := made(t, 1024, class, taken...)
				for _, slot := range taken {
					x.apply(t, write(x.p.address(slot), w))
				}
				x.apply(t, take(), some(1), give(x.p.address(taken[0])), give(x.p.address(taken[0])), some(2))
			}
		}
	}
}

// P15.3: no byte but a word's is asked: what stands behind the words in free slots, and behind the last slot, may be anything, and stays.
func TestBytesBehindWords(t *testing.T) {
	for class, size := range classSizes() {
		x := made(t, 1024, class, 1)
		for slot := range x.p.slots {
			for at := x.p.address(slot) + 8; at < x.p.address(slot)+size; at += 8 {
				x.c.Store(at, 8, wordOf(slot, 0, class))
				x.p.put(at, wordOf(slot, 0, class))
			}
		}
		x.same(t)
		for at := x.p.address(x.p.slots); at < 2048; at += 8 {
			x.apply(t, write(at, wordOf(127, -1, class)))
		}
		x.apply(t, take(), give(x.p.address(1)), some(3), giveAll(x.p.address(0)))
	}
}

// wantBroken: the list isn't right: every call of P15.3, and Check, says so ahead of all else, and nothing changes.
func wantBroken(t *testing.T, x pair) {
	t.Helper()
	if _, right := x.p.list(); right {
		t.Fatal("the list is right")
	}
	s, p := x.s, x.p
	at := func(slot int) int { return p.address(slot) }
	for k, got := range []answer{
		one(s.Take()), one(s.Take()),
		answered(s.Some(1)), answered(s.Some(0)), answered(s.Some(-1)), answered(s.Some(p.count)), answered(s.Some(math.MaxInt)), answered(s.Some(math.MinInt)),
		{nil, s.Give(at(0))}, {nil, s.Give(at(p.slots - 1))}, {nil, s.Give(at(0) + 1)}, {nil, s.Give(-1)}, {nil, s.Give(math.MinInt)},
		{nil, s.GiveAll()}, {nil, s.GiveAll(at(0))}, {nil, s.GiveAll(at(0), at(0))}, {nil, s.GiveAll(7)}, {nil, s.GiveAll(at(p.slots - 1))},
		answered(s.List()), answered(s.Taken()), {nil, s.Check()},
	} {
		want := answer{nil, api.ErrForm}
		if k < 2 {
			want.list = []int{-1}
		}
		if !got.is(want) {
			t.Fatalf("call %d: %v, not %v", k, got, want)
		}
	}
	x.same(t)
}

// breaks: words by which somebody breaks a slot's one, if that slot is in a list of all slots in rising order.
func breaks(slot, slots, class int) []uint64 {
	next := slot + 1
	if next == slots {
		next = -1
	}
	w := wordOf(slot, next, class)
	list := []uint64{
		0, math.MaxUint64, w & 0xffffff, w ^ 1<<24, w ^ 1<<63, w ^ 1<<40, w + 1<<24,
		wordOf((slot+1)%slots, next, class), wordOf((slot+slots-1)%slots, next, class), wordOf(127-slot, next, class), w&^0xff00 | 128<<8, w&^0xff00 | 255<<8,
		wordOf(slot, next, (class+1)%12), wordOf(slot, next, (class+11)%12), w&^0xff0000 | 12<<16, w&^0xff0000 | 255<<16,
		w&^0xff | 129, w&^0xff | 255,
	}
	for to := range 128 {
		// Each way but the right one comes to a slot twice, leaves one out, or leaves the slots.
		if to != next {
			list = append(list, wordOf(slot, to, class))
		}
	}
	if next != -1 {
		list = append(list, wordOf(slot, -1, class))
	}
	return list
}

// P15.3, P15.4: the list isn't right: the head's, a later or the last slot's word is another slot's, another class's, has another mark, tells another next one.
func TestBrokenLists(t *testing.T) {
	for class := range classSizes() {
		n := slotsIn(class)
		first := made(t, 1024, class)
		for _, slot := range slices.Compact([]int{0, 1, n / 2, n - 1}) {
			for _, w := range breaks(slot, n, class) {
				x := first.clone()
				x.c.Store(x.p.address(slot), 8, w)
				x.p.put(x.p.address(slot), w)
				wantBroken(t, x)
				x.apply(t, write(x.p.address(slot), binary.LittleEndian.Uint64(first.p.bytes[x.p.address(slot):])), take(), give(1024), some(2))
			}
		}
		first.same(t)
	}
}

// P15.3, P15.4: the list isn't right, written out, with each of the ways that the chapter names.
func TestBrokenListsWrittenOut(t *testing.T) {
	for _, y := range []struct {
		why   string
		taken []int
		write map[int]uint64
	}{
		{"the head's word is of another slot", nil, map[int]uint64{0: wordOf(1, 1, 9)}},
		{"a later one's word is of another slot", nil, map[int]uint64{2: wordOf(3, 3, 9)}},
		{"the head's word is of another class", nil, map[int]uint64{0: wordOf(0, 1, 8)}},
		{"a later one's word is of another class", nil, map[int]uint64{3: wordOf(3, -1, 10)}},
		{"the head's word has another mark", nil, map[int]uint64{0: wordOf(0, 1, 9) ^ 1<<24}},
		{"a later one's word has another mark", nil, map[int]uint64{1: wordOf(1, 2, 9) ^ 1<<63}},
		{"the head's next one is just behind the last slot", nil, map[int]uint64{0: wordOf(0, 4, 9)}},
		{"the head's next one is far behind the last slot", nil, map[int]uint64{0: wordOf(0, 127, 9)}},
		{"the last one's next one is just behind the last slot", nil, map[int]uint64{3: wordOf(3, 4, 9)}},
		{"behind the last slot there is a word", nil, map[int]uint64{2: wordOf(2, 4, 9), 4: wordOf(4, -1, 9)}},
		{"the head's next one is the head", nil, map[int]uint64{0: wordOf(0, 0, 9)}},
		{"a later one's next one is itself", nil, map[int]uint64{2: wordOf(2, 2, 9)}},
		{"a later one's next one is the head", nil, map[int]uint64{1: wordOf(1, 0, 9)}},
		{"the last one's next one is the head", nil, map[int]uint64{3: wordOf(3, 0, 9)}},
		{"the last one's next one is a later one", nil, map[int]uint64{3: wordOf(3, 2, 9)}},
		{"the way ends at the head", nil, map[int]uint64{0: wordOf(0, -1, 9)}},
		{"the way ends one before the count", nil, map[int]uint64{2: wordOf(2, -1, 9)}},
		{"the way leaves one out", nil, map[int]uint64{1: wordOf(1, 3, 9)}},
		{"the way goes on behind the count", []int{3}, map[int]uint64{2: wordOf(2, 3, 9), 3: wordOf(3, -1, 9)}},
		{"the way goes on behind the count to no word", []int{3}, map[int]uint64{2: wordOf(2, 3, 9), 3: 0}},
		{"the way goes by one taken slot more", []int{1}, map[int]uint64{0: wordOf(0, 1, 9), 1: wordOf(1, 2, 9)}},
		{"the only one's next one is a taken slot", []int{0, 1, 3}, map[int]uint64{2: wordOf(2, 0, 9), 0: wordOf(0, -1, 9)}},
		{"the only one's next one is itself", []int{0, 1, 3}, map[int]uint64{2: wordOf(2, 2, 9)}},
		{"the only one's word is none", []int{0, 1, 3}, map[int]uint64{2: 0}},
	} {
		x := made(t, 1024, 9, y.taken...)
		for slot, w := range y.write {
			x.c.Store(x.p.address(slot), 8, w)
			x.p.put(x.p.address(slot), w)
		}
		if errno := x.s.Check(); errno != api.ErrForm {
			t.Errorf("%s: Check: %v", y.why, errno)
		}
		wantBroken(t, x)
	}
}

// P15.3: words that somebody has written, by which the list is right all the same: it is gone along them.
func TestRightListsThatSomebodyWrote(t *testing.T) {
	x := made(t, 1024, 9)
	for slot, next := range []int{2, 3, 1, -1} {
		w := wordOf(slot, next, 9)
		x.c.Store(x.p.address(slot), 8, w)
		x.p.put(x.p.address(slot), w)
	}
	x.same(t)
	if list, errno := x.s.List(); errno != api.OK || !slices.Equal(list, []int{0, 2, 1, 3}) {
		t.Error(list, errno)
	}
	x.clone().apply(t, take(), take(), give(1024), take(), take(), take())
	x.apply(t, some(3), giveAll(1536), some(9))
	// A taken slot with a right word may stand in the place of a free one: what is in the list is free.
	y := made(t, 1024, 9, 3)
	y.apply(t, write(1024+768, wordOf(3, 2, 9)), write(1024, wordOf(0, 3, 9)))
	if taken, errno := y.s.Taken(); errno != api.OK || !slices.Equal(taken, []int{1}) {
		t.Error(taken, errno)
	}
	y.apply(t, give(1024+768), give(1280), some(2), take(), take(), take())
}

// P15.4: On: the same is told on a memory with the same bytes; a call on one changes neither the other slab nor its memory.
func TestOn(t *testing.T) {
	for class := range classSizes() {
		n := slotsIn(class)
		for _, taken := range [][]int{nil, {0}, {n - 1}, counted(n)[1:], counted(n)} {
			x := made(t, 3072, class, taken...)
			y := x.clone()
			y.same(t)
			y.samePlaces(t, hostileInts(3072)...)
			x.apply(t, take(), giveAll(3072), give(x.p.address(1)))
			y.same(t)
			y.apply(t, some(2), give(y.p.address(n-1)), take())
			x.same(t)
			z := y.clone()
			z.apply(t, some(64), give(3072))
			y.same(t)
			x.same(t)
		}
	}
}

// P15.4: On the same memory, one of another length, one with other bytes: head and count are the same, and words are asked there.
func TestOnOtherMemories(t *testing.T) {
	x := made(t, 1024, 8, 2)
	same := pair{x.s.On(x.c), x.c, x.p.clone()}
	same.apply(t, take())
	x.same(t)

	longer, _ := cells.New(8192)
	whole, _ := x.c.Read(0, 4096)
	longer.Write(0, whole)
	y := pair{x.s.On(longer), longer, x.p.clone()}
	y.p.bytes = append(y.p.bytes, make([]byte, 4096)...)
	y.same(t)
	y.apply(t, take(), give(1408), some(9))
	x.same(t)

	empty, _ := cells.New(4096)
	z := pair{x.s.On(empty), empty, x.p.clone()}
	z.p.bytes = make([]byte, 4096)
	wantBroken(t, z)
	if z.s.Head() != 0 || z.s.Free() != 4 || z.s.State() != oldslab.SPartial {
		t.Error(z.s.Head(), z.s.Free(), z.s.State())
	}
	x.same(t)
}

// P15.4, P1: On a memory that is too short for the list's words: it isn't right there; the slab of before is as it was.
func TestOnTooShortMemories(t *testing.T) {
	for class, size := range classSizes() {
		x := made(t, 1024, class)
		last := x.p.address(x.p.slots - 1)
		for _, n := range []int{0, 1, 1023, 1024, 1025, 1031, 1032, 1024 + size, last, last + 1, last + 7, last + 8, 2047, 2048} {
			c, _ := cells.New(n)
			part, _ := x.c.Read(0, n)
			c.Write(0, part)
			y := pair{x.s.On(c), c, x.p.clone()}
			y.p.bytes = part
			if n < last+8 {
				wantBroken(t, y)
				continue
			}
			y.same(t)
			y.apply(t, take(), give(1024), some(2))
		}
		x.same(t)
	}
}

// P15.3, P1: a slab that is full has no words that could be wrong: its list is right on a memory that is too short, till a slot is given whose word can't be written.
func TestFullOnTooShortMemories(t *testing.T) {
	for class := range classSizes() {
		x := made(t, 1024, class, counted(slotsIn(class))...)
		first, second := x.p.address(0), x.p.address(1)
		for _, n := range []int{0, 1, 1024, 1030, 1031, 1032, second, second + 7, second + 8, 2047} {
			c, b := memory(t, n)
			y := pair{x.s.On(c), c, x.p.clone()}
			y.p.bytes = b
			y.same(t)
			y.apply(t, take(), some(3), give(1025), giveAll(), giveAll(7, first))
			for _, list := range [][]int{{first}, {second}, {first, second}, {second, first}, {first, first}, {second, second}, {first, 7}, {second, 7}, {first, second, first}, {second, first, 7}} {
				z := y.clone()
				z.apply(t, giveAll(list...), take(), some(2), give(second), give(first), giveAll(), give(7))
				z = y.clone()
				for _, at := range list {
					z.apply(t, give(at))
				}
			}
			y.same(t)
		}
		x.same(t)
	}
}

// P15.3, P15.4: every row of up to four calls, and of what somebody writes between them, on a slab of four slots, and on one of two.
func TestEveryRowOfCalls(t *testing.T) {
	calls := []call{
		take(), some(2), some(0), some(9),
		give(1024), give(1280), give(1536), give(2048), give(1030),
		giveAll(), giveAll(1024, 1536), giveAll(1536, 1024), giveAll(1024, 1024), giveAll(1280, 1024), giveAll(1536, 2048),
	}
	for _, class := range []int{9, 11} {
		writes := []call{
			write(1024, wordOf(0, -1, class)), write(1024, wordOf(0, 1, class)), write(1536, wordOf(512/classSizes()[class], 0, class)), write(1536, 0),
		}
		walk(t, 4, append(writes, calls...), madeIn(t, 2048, 1024, class))
		walk(t, 3, append(writes, calls...), madeIn(t, 2048, 1024, class, counted(slotsIn(class))...))
	}
}

// walk: each row of up to so many calls, on memories of their own.
func walk(t *testing.T, depth int, calls []call, x pair) {
	t.Helper()
	if depth == 0 {
		return
	}
	for _, c := range calls {
		y := x.clone()
		y.apply(t, c)
		walk(t, depth-1, calls, y)
	}
	x.same(t)
}

// P15.3, P15.4: many changes, of each class, by calls without an order to be seen, some of which are wrong, while clients write into what they have taken.
func TestManyChanges(t *testing.T) {
	var pick picks
	for class := range classSizes() {
		for _, base := range []int{0, 1024, 3072} {
			x := made(t, base, class)
			for range 300 {
				x.apply(t, picked(&pick, x.p))
			}
		}
	}
}

// P15.3, P15.4: likewise, while somebody writes into free slots, too: words that break the list, and words that make it right again.
func TestManyChangesOfWhatSomebodyWrites(t *testing.T) {
	var pick picks
	for class := range classSizes() {
		x := made(t, 1024, class)
		for range 150 {
			slot := pick.below(x.p.slots)
			was := binary.LittleEndian.Uint64(x.p.bytes[x.p.address(slot):])
			x.apply(t, write(x.p.address(slot), wordOf(slot, pick.below(x.p.slots+1)-1, class)))
			for range 3 {
				x.apply(t, picked(&pick, x.p))
			}
			if _, right := x.p.list(); !right {
				x.apply(t, write(x.p.address(slot), was))
			}
		}
	}
}

// picked: a call of any kind; most addresses are taken slots'.
func picked(pick *picks, p *plain) call {
	taken, _ := p.taken()
	switch pick.below(7) {
	case 0, 1:
		return take()
	case 2:
		return some(pick.below(p.slots/2+2) - 1)
	case 3, 4:
		return give(pickedAddress(pick, p, taken))
	case 5:
		if len(taken) == 0 {
			return take()
		}
		slot := taken[pick.below(len(taken))]
		return write(p.address(slot), wordOf(slot, pick.below(p.slots+1)-1, p.class))
	default:
		var list []int
		for range pick.below(5) {
			list = append(list, pickedAddress(pick, p, taken))
		}
		return giveAll(list...)
	}
}

func pickedAddress(pick *picks, p *plain, taken []int) int {
	switch {
	case pick.below(12) == 0:
		return p.base + pick.below(1300) - 100
	case len(taken) == 0 || pick.below(6) == 0:
		return p.address(pick.below(p.slots))
	default:
		return p.address(taken[pick.below(len(taken))])
	}
}

// P1: calls with any numbers end, and answer as the chapter asks.
func TestAnyNumbers(t *testing.T) {
	for _, class := range []int{0, 2, 8, 11} {
		for _, base := range []int{0, 1024, 3072} {
			x := made(t, base, class, 1)
			for _, n := range hostileInts(base) {
				x.samePlaces(t, n)
				x.apply(t, giveAll(x.p.address(1), n), giveAll(n, x.p.address(1)), some(min(n, 1)), give(n), some(n), giveAll(x.p.address(0)))
			}
		}
	}
}
