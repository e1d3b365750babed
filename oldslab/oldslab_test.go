package oldslab

import (
	"math"
	"slices"
	"testing"

	"underpin/api"
	"underpin/bits"
)

const lastBase = 1047552

// classSizes: the old layout's classes, as chapter 5 tells them.
func classSizes() []int {
	return []int{16, 32, 48, 64, 80, 96, 112, 128, 160, 192, 224, 256, 320, 384, 448, 512}
}

// plain: what a slab is by the chapter, told slot by slot.
type plain struct {
	base, class, size int
	taken             []bool
}

// newPlain: a slab has slots as long as one more ends within its 1,024 bytes.
func newPlain(base, class int, taken ...int) *plain {
	p := &plain{base: base, class: class, size: classSizes()[class]}
	for end := p.size; end <= 1024; end += p.size {
		p.taken = append(p.taken, slices.Contains(taken, len(p.taken)))
	}
	return p
}

func (p *plain) clone() *plain {
	return &plain{p.base, p.class, p.size, slices.Clone(p.taken)}
}

func (p *plain) address(slot int) int { return p.base + slot*p.size }

// slot: the slot that begins at an address, by trying each; -1, if none does.
func (p *plain) slot(at int) int {
	for slot := range p.taken {
		if p.address(slot) == at {
			return slot
		}
	}
	return -1
}

// list: the slots that are taken, or free, rising.
func (p *plain) list(taken bool) []int {
	var list []int
	for slot, is := range p.taken {
		if is == taken {
			list = append(list, slot)
		}
	}
	return list
}

// state: as the chapter tells it: of a slab that has slots, not all are free and taken at once.
func (p *plain) state() int {
	switch {
	case !slices.Contains(p.taken, true):
		return 0
	case !slices.Contains(p.taken, false):
		return 2
	default:
		return 1
	}
}

func (p *plain) take() (int, api.Errno) {
	for slot, is := range p.taken {
		if !is {
			p.taken[slot] = true
			return p.address(slot), api.OK
		}
	}
	return -1, api.ErrFull
}

func (p *plain) some(n int) []int {
	var list []int
	for ; n >= 1; n-- {
		at, errno := p.take()
		if errno != api.OK {
			break
		}
		list = append(list, at)
	}
	return list
}

func (p *plain) give(at int) api.Errno {
	slot := p.slot(at)
	if slot < 0 {
		return api.ErrPointer
	}
	if !p.taken[slot] {
		return api.ErrTwice
	}
	p.taken[slot] = false
	return api.OK
}

// giveAll gives one after the other, and takes all of it back with an error.
func (p *plain) giveAll(list []int) api.Errno {
	before := slices.Clone(p.taken)
	for _, at := range list {
		if errno := p.give(at); errno != api.OK {
			p.taken = before
			return errno
		}
	}
	return api.OK
}

// key: layer 3's Key of a row whose bits are set one by one.
func (p *plain) key() bits.Key {
	row, _ := bits.New(len(p.taken))
	for slot, is := range p.taken {
		if is {
			row.Set(slot)
		}
	}
	return row.Key()
}

const (
	ofTake = iota
	ofSome
	ofGive
	ofGiveAll
)

// call is one that may change a slab.
type call struct {
	what, n int
	list    []int
}

func take() call                     { return call{what: ofTake} }
func some(n int) call                { return call{what: ofSome, n: n} }
func give(at int) call               { return call{what: ofGive, n: at} }
func giveAll(list ...int) call       { return call{what: ofGiveAll, list: list} }
func (c call) text() string          { return [...]string{"Take", "Some", "Give", "GiveAll"}[c.what] }
func one(at int, e api.Errno) answer { return answer{[]int{at}, e} }

// answer is what a call answers, an address as a list of one.
type answer struct {
	list  []int
	errno api.Errno
}

func (a answer) is(b answer) bool { return slices.Equal(a.list, b.list) && a.errno == b.errno }

// on: what a slab answers to the call.
func (c call) on(s *Slab) answer {
	switch c.what {
	case ofTake:
		return one(s.Take())
	case ofSome:
		return answer{s.Some(c.n), api.OK}
	case ofGive:
		return answer{nil, s.Give(c.n)}
	default:
		return answer{nil, s.GiveAll(c.list...)}
	}
}

// told: what the chapter asks of the call.
func (c call) told(p *plain) answer {
	switch c.what {
	case ofTake:
		return one(p.take())
	case ofSome:
		return answer{p.some(c.n), api.OK}
	case ofGive:
		return answer{nil, p.give(c.n)}
	default:
		return answer{nil, p.giveAll(c.list)}
	}
}

// apply: calls answer as the chapter asks, and leave what it asks.
func apply(t *testing.T, s *Slab, p *plain, calls ...call) {
	t.Helper()
	for _, c := range calls {
		before := p.clone()
		want := c.told(p)
		if got := c.on(s); !got.is(want) {
			t.Fatalf("%s %+v: %v, not %v; %+v", c.text(), c, got, want, before)
		}
		same(t, s, p)
	}
}

// same: every call that tells something tells what the chapter asks.
func same(t *testing.T, s *Slab, p *plain) {
	t.Helper()
	if s.Base() != p.base || s.Class() != p.class || s.Size() != p.size || s.Slots() != len(p.taken) {
		t.Fatalf("base %d, class %d, size %d, %d slots, not as %+v", s.Base(), s.Class(), s.Size(), s.Slots(), p)
	}
	if got, want := s.Taken(), p.list(true); !slices.Equal(got, want) {
		t.Fatalf("Taken: %v, not %v", got, want)
	}
	if got, want := s.Free(), len(p.list(false)); got != want {
		t.Fatalf("Free: %d, not %d", got, want)
	}
	if got, want := s.State(), p.state(); got != want {
		t.Fatalf("State: %d, not %d; %+v", got, want, p)
	}
	if got, want := s.Key(), p.key(); got != want {
		t.Fatalf("Key: %v, not %v", got, want)
	}
}

// samePlaces: Slot of the addresses, and Address of the numbers, are as the chapter asks.
func samePlaces(t *testing.T, s *Slab, p *plain, numbers ...int) {
	t.Helper()
	for _, n := range numbers {
		want, wantE := p.slot(n), api.OK
		if want < 0 {
			wantE = api.ErrPointer
		}
		if got, errno := s.Slot(n); got != want || errno != wantE {
			t.Fatalf("Slot(%d): %d, %v, not %d, %v; %+v", n, got, errno, want, wantE, p)
		}
		there := 0 <= n && n < len(p.taken)
		want = -1
		if there {
			want = p.address(n)
		}
		if got, ok := s.Address(n); got != want || ok != there {
			t.Fatalf("Address(%d): %d, %v, not %d, %v; %+v", n, got, ok, want, there, p)
		}
	}
}

// made: a slab of which these slots are taken, and what it is by the chapter.
func made(t *testing.T, base, class int, taken ...int) (*Slab, *plain) {
	t.Helper()
	s, errno := With(base, class, taken)
	if s == nil || errno != api.OK {
		t.Fatalf("With(%d, %d, %v): %v", base, class, taken, errno)
	}
	p := newPlain(base, class, taken...)
	same(t, s, p)
	return s, p
}

func counted(n int) []int {
	var list []int
	for k := range n {
		list = append(list, k)
	}
	return list
}

// bases: the first ones, the last ones, and some between them.
func bases() []int { return []int{0, 1024, 2048, 4096, 65536, 523264, 524288, 1046528, lastBase} }

// hostileInts: numbers at which a base, a class, a slot, an address or a count may go wrong with a slab at a base.
func hostileInts(base int) []int {
	list := []int{math.MinInt, math.MinInt + 1, math.MaxInt - 1, math.MaxInt, 0x5555555555555555, -0x5555555555555556, 1000, 9999}
	for k := range 63 {
		list = append(list, 1<<k, -1<<k, 1<<k-1, 1<<k+1)
	}
	for d := -3; d <= 3; d++ {
		list = append(list, d, 16+d, 64+d, 512+d, base+d, base+16+d, base+512+d, base+1024+d, -base+d, 1048576+d, lastBase+d)
		list = append(list, 1<<32+base+d, 1<<32+d, math.MaxInt-base+d-3, math.MinInt+base+d+3, math.MinInt+base+1024+d, math.MaxInt-1024+d)
	}
	return list
}

// picks: numbers below n by a rule without order to be seen.
type picks uint64

func (p *picks) below(n int) int {
	*p = *p*6364136223846793005 + 1442695040888963407
	return int(uint64(*p) >> 33 % uint64(n))
}

// P13: the constants, as the chapter tells them.
func TestConstants(t *testing.T) {
	if SEmpty != 0 || SPartial != 1 || SFull != 2 {
		t.Error(SEmpty, SPartial, SFull)
	}
}

// P13.1: New at each base and of each class: as told, and all slots are free.
func TestNew(t *testing.T) {
	slots := []int{64, 32, 21, 16, 12, 10, 9, 8, 6, 5, 4, 4, 3, 2, 2, 2}
	for base := 0; base <= lastBase; base += 1024 {
		for class, size := range classSizes() {
			s, errno := New(base, class)
			if s == nil || errno != api.OK {
				t.Fatalf("New(%d, %d): %v, %v", base, class, s, errno)
			}
			if s.Size() != size || s.Slots() != slots[class] || s.Free() != slots[class] || s.State() != SEmpty {
				t.Fatalf("New(%d, %d): %d slots of %d bytes, %d free, state %d", base, class, s.Slots(), s.Size(), s.Free(), s.State())
			}
			if got := s.Taken(); len(got) != 0 {
				t.Fatalf("New(%d, %d): taken %v", base, class, got)
			}
			same(t, s, newPlain(base, class))
		}
	}
}

// wantNone: a base, or a class, that is none is ErrRange and nil, of New and of With, whatever the list.
func wantNone(t *testing.T, base, class int) {
	t.Helper()
	if s, errno := New(base, class); s != nil || errno != api.ErrRange {
		t.Errorf("New(%d, %d): %v, %v", base, class, s, errno)
	}
	for _, list := range [][]int{nil, {}, {0}, {0, 1}, {-1}, {1, 1}, {64}, {math.MaxInt}, {math.MinInt}} {
		if s, errno := With(base, class, list); s != nil || errno != api.ErrRange {
			t.Errorf("With(%d, %d, %v): %v, %v", base, class, list, s, errno)
		}
	}
}

// P13.1: bases and classes out of bounds, at their edges, one by one and both.
func TestNewOutOfBounds(t *testing.T) {
	wrong := []int{-1024, 1048576, 1, 16, 512, 1023, 1025, 1536, lastBase - 1, lastBase + 1, lastBase + 512, lastBase + 1023, -1, -512, -2048, 1048577, 1049600, 1<<32 + 1024, 1 << 62, math.MaxInt, math.MaxInt - 1023, math.MinInt, math.MinInt + 1024}
	classes := []int{-1, 16, 17, 64, -16, 256, 1 << 32, 1<<32 + 3, math.MinInt, math.MaxInt}
	for _, base := range wrong {
		for class := range 16 {
			wantNone(t, base, class)
		}
		for _, class := range classes {
			wantNone(t, base, class)
		}
	}
	for _, class := range classes {
		for _, base := range bases() {
			wantNone(t, base, class)
		}
	}
}

// P13.1, P1: New of any numbers.
func TestNewOfAnyNumbers(t *testing.T) {
	for _, base := range hostileInts(lastBase) {
		for _, class := range hostileInts(0) {
			fits := 0 <= base && base <= lastBase && base%1024 == 0 && 0 <= class && class <= 15
			s, errno := New(base, class)
			if fits && (s == nil || errno != api.OK) || !fits && (s != nil || errno != api.ErrRange) {
				t.Fatalf("New(%d, %d): %v, %v", base, class, s, errno)
			}
		}
	}
}

// P13.1: each New has slots of its own.
func TestNewApart(t *testing.T) {
	a, p := made(t, 1024, 8)
	b, q := made(t, 1024, 8)
	apply(t, a, p, take(), take())
	same(t, b, q)
	apply(t, b, q, some(4), give(1024))
	same(t, a, p)
}

// P13.1: With of no slots, of one, of all, in any order; and of lists of every slot set of few slots.
func TestWith(t *testing.T) {
	for class := range classSizes() {
		all := counted(len(newPlain(0, class).taken))
		back := slices.Clone(all)
		slices.Reverse(back)
		for _, base := range bases() {
			made(t, base, class)
			made(t, base, class, []int{}...)
			made(t, base, class, all...)
			made(t, base, class, back...)
			made(t, base, class, all[1:]...)
			made(t, base, class, back[1:]...)
			for _, slot := range all {
				made(t, base, class, slot)
			}
		}
	}
	for set := range 1 << 6 {
		made(t, 1024, 8, slotsOf(set)...)
	}
}

// slotsOf: the places of a number's bits that are set.
func slotsOf(set int) []int {
	var list []int
	for slot := range 64 {
		if set>>slot&1 == 1 {
			list = append(list, slot)
		}
	}
	return list
}

// P13.1: With of a number that is no slot, or that stands twice, in the first place, between others, and in the last one.
func TestWithOfWrongLists(t *testing.T) {
	for class := range classSizes() {
		n := len(newPlain(0, class).taken)
		all := counted(n)
		for _, wrong := range []int{-1, n, n + 1, 64, -n, 1 << 32, math.MinInt, math.MaxInt} {
			for place := range n + 1 {
				wantForm(t, class, slices.Insert(slices.Clone(all), place, wrong))
			}
			wantForm(t, class, []int{wrong})
			wantForm(t, class, []int{wrong, wrong})
		}
		for _, slot := range all {
			wantForm(t, class, append(slices.Clone(all), slot))
			wantForm(t, class, append([]int{slot}, all...))
			wantForm(t, class, []int{slot, slot})
		}
		wantForm(t, class, append(slices.Clone(all), all...))
	}
}

func wantForm(t *testing.T, class int, list []int) {
	t.Helper()
	handed := slices.Clone(list)
	for _, base := range []int{0, 1024, lastBase} {
		if s, errno := With(base, class, handed); s != nil || errno != api.ErrForm {
			t.Errorf("With(%d, %d, %v): %v, %v", base, class, list, s, errno)
		}
	}
	if !slices.Equal(list, handed) {
		t.Errorf("With changed %v to %v", list, handed)
	}
}

// P13.1, P1: With of any numbers as slots.
func TestWithOfAnyNumbers(t *testing.T) {
	for class := range classSizes() {
		n := len(newPlain(0, class).taken)
		for _, slot := range hostileInts(1024) {
			if slot < 0 || slot >= n {
				wantForm(t, class, []int{0, slot})
				continue
			}
			made(t, 1024, class, slot)
		}
	}
}

// P13.1: the list that is handed in is neither changed nor kept, nor what lies behind its length.
func TestWithKeepsNoList(t *testing.T) {
	room := []int{5, 0, 3, 7, 7}
	s, errno := With(1024, 7, room[:3])
	if errno != api.OK || !slices.Equal(room, []int{5, 0, 3, 7, 7}) {
		t.Fatal(errno, room)
	}
	p := newPlain(1024, 7, 0, 3, 5)
	same(t, s, p)
	room[0], room[1], room[2] = 1, 2, 2
	same(t, s, p)
	apply(t, s, p, take(), give(1024+3*128))
	if !slices.Equal(room, []int{1, 2, 2, 7, 7}) {
		t.Errorf("the list is %v", room)
	}
}

// P13.2: every address from well below the slab to well behind it; every number from below 0 to well behind the last slot.
func TestPlaces(t *testing.T) {
	for class := range classSizes() {
		for _, base := range bases() {
			s, p := made(t, base, class, 1)
			for at := base - 1040; at < base+2080; at++ {
				samePlaces(t, s, p, at)
			}
			for slot := -70; slot < 140; slot++ {
				samePlaces(t, s, p, slot)
			}
			samePlaces(t, s, p, hostileInts(base)...)
			same(t, s, p)
		}
	}
}

// P13.2: written out: the first and the last slot, within one, below the base, behind the last slot, beyond the slab.
func TestSlotWrittenOut(t *testing.T) {
	s, _ := made(t, 1024, 8, 0, 2)
	for _, x := range []struct {
		at, want int
		errno    api.Errno
	}{
		{1024, 0, api.OK}, {1184, 1, api.OK}, {1344, 2, api.OK}, {1824, 5, api.OK},
		{1025, -1, api.ErrPointer}, {1100, -1, api.ErrPointer}, {1183, -1, api.ErrPointer}, {1825, -1, api.ErrPointer}, {1983, -1, api.ErrPointer},
		{1023, -1, api.ErrPointer}, {864, -1, api.ErrPointer}, {0, -1, api.ErrPointer}, {-1, -1, api.ErrPointer}, {-1024, -1, api.ErrPointer},
		{1984, -1, api.ErrPointer}, {2000, -1, api.ErrPointer}, {2047, -1, api.ErrPointer},
		{2048, -1, api.ErrPointer}, {2144, -1, api.ErrPointer}, {1048576, -1, api.ErrPointer},
		{math.MinInt, -1, api.ErrPointer}, {math.MinInt + 1024, -1, api.ErrPointer}, {math.MaxInt, -1, api.ErrPointer},
	} {
		if got, errno := s.Slot(x.at); got != x.want || errno != x.errno {
			t.Errorf("Slot(%d): %d, %v, not %d, %v", x.at, got, errno, x.want, x.errno)
		}
	}
	for slot, want := range map[int]int{0: 1024, 1: 1184, 5: 1824, -1: -1, 6: -1, 7: -1, math.MinInt: -1, math.MaxInt: -1, 1 << 59: -1} {
		if got, ok := s.Address(slot); got != want || ok != (want >= 0) {
			t.Errorf("Address(%d): %d, %v", slot, got, ok)
		}
	}
}

// P13.2: of each class, the bytes behind the last slot belong to none.
func TestBehindTheLastSlot(t *testing.T) {
	for class, size := range classSizes() {
		s, _ := made(t, lastBase, class)
		for k := s.Slots(); k <= 2*s.Slots(); k++ {
			if got, errno := s.Slot(lastBase + k*size); got != -1 || errno != api.ErrPointer {
				t.Errorf("class %d: Slot of what is behind slot %d: %d, %v", class, k-1, got, errno)
			}
		}
		last, ok := s.Address(s.Slots() - 1)
		if !ok || last+size > 1048576 || last+2*size <= 1048576 {
			t.Errorf("class %d: the last slot at %d, %v", class, last, ok)
		}
	}
}

// P13.1 to P13.3: the chapter's examples.
func TestExample(t *testing.T) {
	s, p := made(t, 1024, 8)
	if s.Slots() != 6 || s.Size() != 160 {
		t.Errorf("%d slots of %d bytes", s.Slots(), s.Size())
	}
	for _, want := range []int{1024, 1184} {
		if at, errno := s.Take(); at != want || errno != api.OK {
			t.Errorf("Take: %d, %v, not %d", at, errno, want)
		}
	}
	if errno := s.Give(1024); errno != api.OK {
		t.Errorf("Give(1024): %v", errno)
	}
	if at, errno := s.Take(); at != 1024 || errno != api.OK {
		t.Errorf("Take: %d, %v", at, errno)
	}
	for _, at := range []int{1100, 1984} {
		if slot, errno := s.Slot(at); slot != -1 || errno != api.ErrPointer {
			t.Errorf("Slot(%d): %d, %v", at, slot, errno)
		}
	}
	p.some(2)
	same(t, s, p)
}

// P13.3: Take until none is free, of each class, and once more: ErrFull, and nothing changes.
func TestTakeUntilFull(t *testing.T) {
	for class, size := range classSizes() {
		for _, base := range []int{0, 1024, lastBase} {
			s, p := made(t, base, class)
			for k := range s.Slots() {
				if at, errno := s.Take(); at != base+k*size || errno != api.OK {
					t.Fatalf("class %d: Take: %d, %v", class, at, errno)
				}
				p.take()
				same(t, s, p)
			}
			for range 3 {
				if at, errno := s.Take(); at != -1 || errno != api.ErrFull {
					t.Fatalf("class %d: Take of a full slab: %d, %v", class, at, errno)
				}
				same(t, s, p)
			}
		}
	}
}

// P13.3: the least free slot is taken, also behind a Give of one in the middle, of the first, and of the last.
func TestTakeTheLeast(t *testing.T) {
	for class := range classSizes() {
		n := len(newPlain(0, class).taken)
		for slot := range n {
			s, p := made(t, 2048, class, counted(n)...)
			apply(t, s, p, give(p.address(slot)), take(), take(), give(p.address(n-1)), give(p.address(slot)), take(), take(), take())
		}
	}
	s, _ := made(t, 0, 0, counted(64)...)
	for _, at := range []int{16 * 40, 16 * 63, 16 * 7} {
		if errno := s.Give(at); errno != api.OK {
			t.Fatal(errno)
		}
	}
	for _, want := range []int{16 * 7, 16 * 40, 16 * 63} {
		if at, errno := s.Take(); at != want || errno != api.OK {
			t.Errorf("Take: %d, %v, not %d", at, errno, want)
		}
	}
}

// P13.3: Some of a number below 0, of 0, 1, as many as are free, and more, with all, some, one and no slots free.
func TestSome(t *testing.T) {
	for class := range classSizes() {
		all := counted(len(newPlain(0, class).taken))
		for _, taken := range [][]int{nil, {0}, {1}, all[:len(all)-1], all[1:], all} {
			free := len(all) - len(taken)
			for _, n := range append(hostileInts(1024), free-2, free-1, free, free+1, free+2) {
				s, p := made(t, 1024, class, taken...)
				apply(t, s, p, some(n), some(1), some(n))
			}
		}
	}
}

// P13.3: Some, written out: those taken one after the other, from the least one on, past taken ones.
func TestSomeWrittenOut(t *testing.T) {
	s, _ := made(t, 1024, 8, 0, 2)
	for _, x := range []struct {
		n    int
		want []int
	}{{-1, nil}, {0, nil}, {math.MinInt, nil}, {2, []int{1184, 1504}}, {1, []int{1664}}, {2, []int{1824}}, {1, nil}, {math.MaxInt, nil}} {
		if got := s.Some(x.n); !slices.Equal(got, x.want) {
			t.Errorf("Some(%d): %v, not %v", x.n, got, x.want)
		}
	}
	if s.State() != SFull || s.Free() != 0 {
		t.Errorf("state %d, %d free", s.State(), s.Free())
	}
	whole, _ := made(t, 1024, 8)
	if got := whole.Some(math.MaxInt); !slices.Equal(got, []int{1024, 1184, 1344, 1504, 1664, 1824}) {
		t.Errorf("Some of all: %v", got)
	}
}

// P13.3: Give of each slot, taken and free, once and twice; of addresses at which none begins.
func TestGive(t *testing.T) {
	for class := range classSizes() {
		n := len(newPlain(0, class).taken)
		for _, base := range []int{0, 1024, lastBase} {
			s, p := made(t, base, class, counted(n)...)
			for slot := range n {
				at := p.address(slot)
				apply(t, s, p, give(at), give(at), give(at+1), give(at-1))
			}
			apply(t, s, p, give(p.address(n)), give(base+1024), give(base-1), give(base-p.size), give(-1), give(math.MinInt), give(math.MaxInt))
		}
	}
}

// P13.3: Give, written out, with its errors.
func TestGiveWrittenOut(t *testing.T) {
	s, p := made(t, 1024, 8, 0, 1, 5)
	for _, x := range []struct {
		at    int
		errno api.Errno
		taken []int
	}{
		{1344, api.ErrTwice, []int{0, 1, 5}},
		{1100, api.ErrPointer, []int{0, 1, 5}},
		{1984, api.ErrPointer, []int{0, 1, 5}},
		{2048, api.ErrPointer, []int{0, 1, 5}},
		{864, api.ErrPointer, []int{0, 1, 5}},
		{1184, api.OK, []int{0, 5}},
		{1184, api.ErrTwice, []int{0, 5}},
		{1824, api.OK, []int{0}},
		{1024, api.OK, nil},
		{1024, api.ErrTwice, nil},
	} {
		if errno := s.Give(x.at); errno != x.errno {
			t.Errorf("Give(%d): %v, not %v", x.at, errno, x.errno)
		}
		p = newPlain(1024, 8, x.taken...)
		same(t, s, p)
	}
}

// P13.3, P1: Give of any numbers, of slabs that are empty, partial and full.
func TestGiveOfAnyNumbers(t *testing.T) {
	for class := range classSizes() {
		all := counted(len(newPlain(0, class).taken))
		for _, base := range []int{0, 1024, lastBase} {
			for _, taken := range [][]int{nil, {0}, all} {
				s, p := made(t, base, class, taken...)
				for _, at := range hostileInts(base) {
					apply(t, s, p, give(at), giveAll(at, at), giveAll(at))
				}
			}
		}
	}
}

// P13.3: GiveAll of no address, of one, of several in any order, of all.
func TestGiveAll(t *testing.T) {
	for class := range classSizes() {
		n := len(newPlain(0, class).taken)
		p := newPlain(1024, class)
		var all []int
		for slot := range n {
			all = append(all, p.address(slot))
		}
		back := slices.Clone(all)
		slices.Reverse(back)
		for _, list := range [][]int{nil, {}, all, back, all[1:], back[1:], all[:1], back[:1], append(slices.Clone(all[n/2:]), all[:n/2]...)} {
			s, p := made(t, 1024, class, counted(n)...)
			apply(t, s, p, giveAll(list...), giveAll(list...), take(), giveAll())
		}
	}
}

// P13.3: GiveAll with an error first, in the middle and last: an address that stands twice, that is free, at which none begins; nothing changes.
func TestGiveAllWithErrors(t *testing.T) {
	fine := []int{1824, 1024, 1504}
	for _, x := range []struct {
		wrong int
		errno api.Errno
	}{
		{1344, api.ErrTwice}, {1664, api.ErrTwice},
		{1100, api.ErrPointer}, {1984, api.ErrPointer}, {2048, api.ErrPointer}, {864, api.ErrPointer}, {-1, api.ErrPointer}, {math.MinInt, api.ErrPointer}, {math.MaxInt, api.ErrPointer},
		{1824, api.ErrTwice}, {1024, api.ErrTwice}, {1504, api.ErrTwice},
	} {
		for place := range len(fine) + 1 {
			s, p := made(t, 1024, 8, 0, 1, 3, 5)
			list := slices.Insert(slices.Clone(fine), place, x.wrong)
			handed := slices.Clone(list)
			if errno := s.GiveAll(handed...); errno != x.errno {
				t.Errorf("GiveAll(%v): %v, not %v", list, errno, x.errno)
			}
			same(t, s, p)
			if !slices.Equal(handed, list) {
				t.Errorf("GiveAll changed %v to %v", list, handed)
			}
			apply(t, s, p, giveAll(list...), giveAll(fine...))
		}
	}
}

// P13.3: where several addresses have errors, the first one's is answered; one that stands twice has its error at its second place.
func TestGiveAllFirstError(t *testing.T) {
	for _, x := range []struct {
		list  []int
		errno api.Errno
	}{
		{[]int{1344, 7}, api.ErrTwice},
		{[]int{7, 1344}, api.ErrPointer},
		{[]int{1024, 7, 1024}, api.ErrPointer},
		{[]int{1024, 1024, 7}, api.ErrTwice},
		{[]int{1024, 1184, 7, 1184, 1344}, api.ErrPointer},
		{[]int{1024, 1184, 1184, 7, 1344}, api.ErrTwice},
		{[]int{1344, 1344}, api.ErrTwice},
		{[]int{7, 7}, api.ErrPointer},
		{[]int{1024, 1184, 1344, 1984}, api.ErrTwice},
		{[]int{1024, 1184, 1984, 1344}, api.ErrPointer},
	} {
		s, p := made(t, 1024, 8, 0, 1)
		if errno := s.GiveAll(x.list...); errno != x.errno {
			t.Errorf("GiveAll(%v): %v, not %v", x.list, errno, x.errno)
		}
		same(t, s, p)
	}
}

// P13.3: every row of up to three addresses, of each set of taken slots of few, is given as one after the other, or not at all.
func TestGiveAllOfEveryList(t *testing.T) {
	addresses := []int{1024, 1344, 1664, 1984, 1025, 704}
	for set := range 1 << 3 {
		walkLists(3, addresses, nil, func(list []int) {
			s, p := made(t, 1024, 12, slotsOf(set)...)
			apply(t, s, p, giveAll(list...))
		})
	}
}

// walkLists: each list of up to so many of the numbers.
func walkLists(depth int, numbers, list []int, do func(list []int)) {
	do(list)
	if depth == 0 {
		return
	}
	for _, n := range numbers {
		walkLists(depth-1, numbers, append(slices.Clone(list), n), do)
	}
}

// P13.3: the list that is handed to GiveAll is neither changed nor kept.
func TestGiveAllKeepsNoList(t *testing.T) {
	room := []int{1824, 1024, 1184, 1504}
	s, p := made(t, 1024, 8, counted(6)...)
	if errno := s.GiveAll(room[:2]...); errno != api.OK || !slices.Equal(room, []int{1824, 1024, 1184, 1504}) {
		t.Fatal(errno, room)
	}
	p.giveAll([]int{1824, 1024})
	room[0], room[1] = 1344, 1344
	same(t, s, p)
	apply(t, s, p, take(), take(), take())
	if !slices.Equal(room, []int{1344, 1344, 1184, 1504}) {
		t.Errorf("the list is %v", room)
	}
}

// P13.4: Taken, Free, State and Key with no slot taken, one, all but one, and all, of each class.
func TestTold(t *testing.T) {
	for class := range classSizes() {
		all := counted(len(newPlain(0, class).taken))
		made(t, 1024, class)
		made(t, 1024, class, all...)
		for slot := range all {
			made(t, 1024, class, slot)
			made(t, 1024, class, slices.Delete(slices.Clone(all), slot, slot+1)...)
		}
	}
}

// P13.4: Taken, Free, State and Key, written out.
func TestToldWrittenOut(t *testing.T) {
	for _, x := range []struct {
		class       int
		taken       []int
		free, state int
		key         bits.Key
	}{
		{8, nil, 6, 0, bits.Key{}},
		{8, []int{0}, 5, 1, bits.Key{1}},
		{8, []int{5}, 5, 1, bits.Key{32}},
		{8, []int{5, 0, 3}, 3, 1, bits.Key{41}},
		{8, []int{0, 1, 2, 3, 4}, 1, 1, bits.Key{31}},
		{8, []int{0, 1, 2, 3, 4, 5}, 0, 2, bits.Key{63}},
		{0, []int{63}, 63, 1, bits.Key{1 << 63}},
		{0, counted(64), 0, 2, bits.Key{math.MaxUint64}},
		{0, counted(63), 1, 1, bits.Key{math.MaxInt64}},
		{15, []int{1}, 1, 1, bits.Key{2}},
		{15, []int{0, 1}, 0, 2, bits.Key{3}},
	} {
		s, _ := made(t, lastBase, x.class, x.taken...)
		rising := slices.Sorted(slices.Values(x.taken))
		if !slices.Equal(s.Taken(), rising) || s.Free() != x.free || s.State() != x.state || s.Key() != x.key {
			t.Errorf("class %d, %v: taken %v, %d free, state %d, key %v", x.class, x.taken, s.Taken(), s.Free(), s.State(), s.Key())
		}
	}
}

// P13.4: keys of two slabs of one class are the same just if the same slots are taken, wherever they are and however it came.
func TestKeys(t *testing.T) {
	for a := range 1 << 6 {
		s, _ := made(t, 1024, 8, slotsOf(a)...)
		for b := range 1 << 6 {
			other, _ := made(t, 0, 8, slotsOf(b)...)
			if (s.Key() == other.Key()) != (a == b) {
				t.Fatalf("%v and %v: %v, %v", slotsOf(a), slotsOf(b), s.Key(), other.Key())
			}
		}
	}
	s, p := made(t, 0, 8)
	apply(t, s, p, some(6), giveAll(0, 320), take(), give(800))
	other, _ := made(t, 2048, 8, 0, 1, 3, 4)
	if s.Key() != other.Key() {
		t.Errorf("%v, not %v", s.Key(), other.Key())
	}
}

// P13.4: a clone is the same; what changes one of both doesn't change the other one.
func TestClone(t *testing.T) {
	for class := range classSizes() {
		n := len(newPlain(0, class).taken)
		for _, taken := range [][]int{nil, {0}, {n - 1}, counted(n)[1:], counted(n)} {
			s, p := made(t, lastBase, class, taken...)
			c, q := s.Clone(), p.clone()
			same(t, c, q)
			samePlaces(t, c, q, hostileInts(lastBase)...)
			apply(t, s, p, take(), giveAll(lastBase), give(p.address(1)))
			same(t, c, q)
			apply(t, c, q, some(2), give(p.address(n-1)), take())
			same(t, s, p)
			d, r := c.Clone(), q.clone()
			apply(t, d, r, some(64), give(lastBase))
			same(t, c, q)
			same(t, s, p)
		}
	}
}

// P13.4: what is answered may be changed, spare room too, without a change of the slab or of another answer.
func TestAnswersAreNew(t *testing.T) {
	s, p := made(t, 1024, 4, 0, 3, 7)
	taken, beside := s.Taken(), s.Taken()
	spoil(taken)
	if !slices.Equal(beside, []int{0, 3, 7}) {
		t.Errorf("the other list is %v", beside)
	}
	same(t, s, p)
	first, second := s.Some(3), s.Some(2)
	p.some(5)
	spoil(first)
	if !slices.Equal(second, []int{1024 + 5*80, 1024 + 6*80}) {
		t.Errorf("the other list is %v", second)
	}
	same(t, s, p)
	key := s.Key()
	key[0] = 0
	same(t, s, p)
	apply(t, s, p, take(), giveAll(1024))
}

// spoil writes all that a list's memory holds.
func spoil(list []int) {
	room := list[:cap(list)]
	for k := range room {
		room[k] = -99
	}
}

// P13.3, P13.4: every row of up to four calls on a slab of three slots, and on one of two.
func TestEveryRowOfCalls(t *testing.T) {
	calls := []call{
		take(), some(2), some(0), some(9),
		give(1024), give(1344), give(1536), give(1664), give(1984), give(1030),
		giveAll(), giveAll(1024, 1344), giveAll(1664, 1024), giveAll(1024, 1024), giveAll(1024, 1536), giveAll(1024, 1984), giveAll(1984, 1024),
	}
	for _, class := range []int{12, 15} {
		s, p := made(t, 1024, class)
		walk(t, 4, calls, s, p)
	}
}

// walk: each row of up to so many calls, on clones.
func walk(t *testing.T, depth int, calls []call, s *Slab, p *plain) {
	t.Helper()
	if depth == 0 {
		return
	}
	for _, c := range calls {
		s2, p2 := s.Clone(), p.clone()
		apply(t, s2, p2, c)
		walk(t, depth-1, calls, s2, p2)
	}
	same(t, s, p)
}

// P13.3, P13.4: many changes, of each class, by calls without an order to be seen, some of which are wrong.
func TestManyChanges(t *testing.T) {
	var pick picks
	for class := range classSizes() {
		for _, base := range []int{0, 1024, lastBase} {
			s, p := made(t, base, class)
			for range 400 {
				apply(t, s, p, picked(&pick, p))
			}
		}
	}
}

// picked: a call of any kind; most addresses are taken slots'.
func picked(pick *picks, p *plain) call {
	switch pick.below(6) {
	case 0, 1:
		return take()
	case 2:
		return some(pick.below(len(p.taken)/2+2) - 1)
	case 3, 4:
		return give(pickedAddress(pick, p))
	default:
		var list []int
		for range pick.below(5) {
			list = append(list, pickedAddress(pick, p))
		}
		return giveAll(list...)
	}
}

func pickedAddress(pick *picks, p *plain) int {
	taken := p.list(true)
	switch {
	case pick.below(12) == 0:
		return p.base + pick.below(1300) - 100
	case len(taken) == 0 || pick.below(6) == 0:
		return p.address(pick.below(len(p.taken)))
	default:
		return p.address(taken[pick.below(len(taken))])
	}
}

// P1: calls with any numbers end, and answer as the chapter asks.
func TestAnyNumbers(t *testing.T) {
	for _, class := range []int{0, 2, 8, 15} {
		for _, base := range bases() {
			s, p := made(t, base, class, 1)
			for _, n := range hostileInts(base) {
				samePlaces(t, s, p, n)
				apply(t, s, p, giveAll(p.address(1), n), giveAll(n, p.address(1)), some(min(n, 1)), give(n), some(n), giveAll(p.address(0)))
			}
		}
	}
}
