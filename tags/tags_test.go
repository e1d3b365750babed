package tags

import (
	"math"
	"slices"
	"testing"

	"underpin/api"
)

// pair is a place and the tag that it has.
type pair struct {
	p Place
	x Tag
}

// plain: what tags are by the chapter: the places that have one, in order, each with it.
type plain struct{ held []pair }

func (m *plain) clone() *plain { return &plain{slices.Clone(m.held)} }

// before: is a place ahead of another one?
func before(p, q Place) bool {
	if p.Page != q.Page {
		return p.Page < q.Page
	}
	return p.Slot < q.Slot
}

// find: where a place stands, or -1.
func (m *plain) find(p Place) int {
	for k, y := range m.held {
		if y.p == p {
			return k
		}
	}
	return -1
}

func (m *plain) get(p Place) (Tag, bool) {
	if k := m.find(p); k >= 0 {
		return m.held[k].x, true
	}
	return Tag{}, false
}

// add: a place that has none has a tag.
func (m *plain) add(p Place, x Tag) {
	k := 0
	for k < len(m.held) && before(m.held[k].p, p) {
		k++
	}
	m.held = slices.Insert(m.held, k, pair{p, x})
}

func (m *plain) remove(p Place) {
	k := m.find(p)
	m.held = slices.Delete(m.held, k, k+1)
}

func (m *plain) in(page int) []int {
	var list []int
	for _, y := range m.held {
		if y.p.Page == page {
			list = append(list, y.p.Slot)
		}
	}
	return list
}

func (m *plain) of(worker int) []Place {
	var list []Place
	for _, y := range m.held {
		if y.x.Worker == worker {
			list = append(list, y.p)
		}
	}
	return list
}

func (m *plain) same(x Tag) int {
	count := 0
	for _, y := range m.held {
		if y.x.Worker == x.Worker && y.x.Size == x.Size {
			count++
		}
	}
	return count
}

func (m *plain) bytes() int {
	sum := 0
	for _, y := range m.held {
		sum += y.x.Size
	}
	return sum
}

func between(number, greatest int) bool { return 0 <= number && number <= greatest }

func rightPlace(p Place) bool { return between(p.Page, 4095) && between(p.Slot, 127) }

func rightTag(x Tag) bool { return between(x.Worker, 63) && between(x.Size, 1099511627776) }

// kind is which call it is.
type kind int

const (
	kPut kind = iota
	kDrop
	kMove
)

// call is one that may change tags; from is the one place that Put and Drop have.
type call struct {
	kind     kind
	from, to Place
	x        Tag
}

func put(p Place, x Tag) call { return call{kind: kPut, from: p, x: x} }

func drop(p Place) call { return call{kind: kDrop, from: p} }

func move(from, to Place, x Tag) call { return call{kMove, from, to, x} }

// on: what tags answer to the call.
func (c call) on(s *Tags) (Tag, api.Errno) {
	switch c.kind {
	case kPut:
		return Tag{}, s.Put(c.from, c.x)
	case kDrop:
		return s.Drop(c.from)
	}
	return Tag{}, s.Move(c.from, c.to, c.x)
}

// told: what the chapter asks of the call.
func (c call) told(m *plain) (Tag, api.Errno) {
	switch c.kind {
	case kPut:
		return Tag{}, m.put(c.from, c.x)
	case kDrop:
		return m.drop(c.from)
	}
	return Tag{}, m.move(c.from, c.to, c.x)
}

func (m *plain) put(p Place, x Tag) api.Errno {
	if !rightPlace(p) || !rightTag(x) {
		return api.ErrRange
	}
	if m.find(p) >= 0 {
		return api.ErrThere
	}
	m.add(p, x)
	return api.OK
}

func (m *plain) drop(p Place) (Tag, api.Errno) {
	x, ok := m.get(p)
	if !ok {
		return Tag{}, api.ErrNone
	}
	m.remove(p)
	return x, api.OK
}

func (m *plain) move(from, to Place, x Tag) api.Errno {
	if !rightPlace(to) || !rightTag(x) {
		return api.ErrRange
	}
	if m.find(from) < 0 {
		return api.ErrNone
	}
	if to != from && m.find(to) >= 0 {
		return api.ErrThere
	}
	m.remove(from)
	m.add(to, x)
	return api.OK
}

// apply: calls answer as the chapter asks.
func apply(t *testing.T, s *Tags, m *plain, calls ...call) {
	t.Helper()
	for _, c := range calls {
		want, errno := c.told(m)
		if got, e := c.on(s); got != want || e != errno {
			t.Fatalf("%v: %v, %v, not %v, %v", c, got, e, want, errno)
		}
	}
}

// after: tags behind these calls, none of which is an error.
func after(t *testing.T, calls ...call) (*Tags, *plain) {
	t.Helper()
	s, m := New(), &plain{}
	for _, c := range calls {
		if _, errno := c.on(s); errno != api.OK {
			t.Fatalf("%v: %v", c, errno)
		}
		c.told(m)
	}
	same(t, s, m)
	return s, m
}

// told: all that an iterator tells.
func told(all func(func(Place, Tag) bool)) []pair {
	var list []pair
	for p, x := range all {
		list = append(list, pair{p, x})
	}
	return list
}

// same: every call that tells something tells what the chapter asks.
func same(t *testing.T, s *Tags, m *plain) {
	t.Helper()
	sameWhole(t, s, m)
	samePage(t, s, m, -1)
	samePage(t, s, m, 4096)
	for worker := -1; worker <= 64; worker++ {
		sameWorker(t, s, m, worker)
	}
	sameTag(t, s, m, Tag{})
	for _, y := range m.held {
		for d := -1; d <= 1; d++ {
			samePlace(t, s, m, Place{y.p.Page + d, y.p.Slot})
			samePlace(t, s, m, Place{y.p.Page, y.p.Slot + d})
			samePage(t, s, m, y.p.Page+d)
			sameTag(t, s, m, Tag{y.x.Worker + d, y.x.Size})
			sameTag(t, s, m, Tag{y.x.Worker, y.x.Size + d})
		}
		samePlace(t, s, m, Place{y.p.Slot, y.p.Page})
		sameTag(t, s, m, Tag{y.x.Size, y.x.Worker})
	}
}

// sameWhole: what is told of all tags together.
func sameWhole(t *testing.T, s *Tags, m *plain) {
	t.Helper()
	if got := s.Count(); got != len(m.held) {
		t.Fatalf("Count: %d, not %d", got, len(m.held))
	}
	if got, want := s.Bytes(), m.bytes(); got != want {
		t.Fatalf("Bytes: %d, not %d", got, want)
	}
	if got := told(s.All()); !slices.Equal(got, m.held) {
		t.Fatalf("All: %v, not %v", got, m.held)
	}
}

func samePlace(t *testing.T, s *Tags, m *plain, p Place) {
	t.Helper()
	want, there := m.get(p)
	if got, ok := s.Get(p); got != want || ok != there {
		t.Fatalf("Get(%v): %v, %v, not %v, %v", p, got, ok, want, there)
	}
}

func samePage(t *testing.T, s *Tags, m *plain, page int) {
	t.Helper()
	if got, want := s.In(page), m.in(page); !slices.Equal(got, want) {
		t.Fatalf("In(%d): %v, not %v", page, got, want)
	}
}

func sameWorker(t *testing.T, s *Tags, m *plain, worker int) {
	t.Helper()
	if got, want := s.Of(worker), m.of(worker); !slices.Equal(got, want) {
		t.Fatalf("Of(%d): %v, not %v", worker, got, want)
	}
}

func sameTag(t *testing.T, s *Tags, m *plain, x Tag) {
	t.Helper()
	if got, want := s.Same(x), m.same(x); got != want {
		t.Fatalf("Same(%v): %d, not %d", x, got, want)
	}
}

// step: a call with its answer, and the count and the bytes behind it, as they are written out.
type step struct {
	call         call
	x            Tag
	errno        api.Errno
	count, bytes int
}

// wantSteps: each step answers what is written out, and leaves what the chapter asks.
func wantSteps(t *testing.T, steps ...step) *Tags {
	t.Helper()
	s, m := New(), &plain{}
	for k, y := range steps {
		y.call.told(m)
		if x, errno := y.call.on(s); x != y.x || errno != y.errno {
			t.Fatalf("step %d: %v, %v, not %v, %v", k, x, errno, y.x, y.errno)
		}
		if s.Count() != y.count || s.Bytes() != y.bytes {
			t.Fatalf("step %d: Count %d, Bytes %d, not %d, %d", k, s.Count(), s.Bytes(), y.count, y.bytes)
		}
		same(t, s, m)
	}
	return s
}

// wantErrors: each call answers the error and no tag, and changes nothing.
func wantErrors(t *testing.T, s *Tags, m *plain, errno api.Errno, calls ...call) {
	t.Helper()
	for _, c := range calls {
		if x, e := c.on(s); x != (Tag{}) || e != errno {
			t.Errorf("%v: %v, %v, not %v", c, x, e, errno)
		}
		same(t, s, m)
	}
}

// hostileInts: numbers at which a page, a slot, a worker or a size may go wrong.
func hostileInts() []int {
	list := []int{math.MinInt, math.MinInt + 1, math.MaxInt - 1, math.MaxInt, 0x5555555555555555}
	for k := range 63 {
		list = append(list, 1<<k, -1<<k, 1<<k-1)
	}
	for d := -2; d <= 2; d++ {
		for _, number := range []int{0, 63, 127, 4095, 1 << 32, 1<<32 + 127, 1<<32 + 4095, 1 << 40} {
			list = append(list, number+d, -number+d, math.MaxInt-number+d-2, math.MinInt+number+d+2)
		}
	}
	return list
}

// lastPlace and lastTag are the greatest that may be.
var (
	lastPlace = Place{Page: 4095, Slot: 127}
	lastTag   = Tag{Worker: 63, Size: 1 << 40}
)

// noPlaces: places one beyond each bound, and both.
func noPlaces() []Place {
	return []Place{{-1, 0}, {4096, 0}, {0, -1}, {0, 128}, {-1, 127}, {4096, 127}, {4095, -1}, {4095, 128}, {-1, -1}, {4096, 128}, {127, 4095}}
}

// noTags: tags one beyond each bound, and both.
func noTags() []Tag {
	return []Tag{{-1, 0}, {64, 0}, {0, -1}, {0, 1<<40 + 1}, {-1, 1 << 40}, {64, 1 << 40}, {63, -1}, {63, 1<<40 + 1}, {-1, -1}, {64, 1<<40 + 1}, {1 << 40, 63}}
}

// P11.2: at first no place has a tag.
func TestNew(t *testing.T) {
	s, m := after(t)
	if s.Count() != 0 || s.Bytes() != 0 || s.Same(Tag{}) != 0 || len(s.In(0)) != 0 || len(s.Of(0)) != 0 || len(told(s.All())) != 0 {
		t.Errorf("Count %d, Bytes %d, Same %d", s.Count(), s.Bytes(), s.Same(Tag{}))
	}
	if x, ok := s.Get(Place{}); ok || x != (Tag{}) {
		t.Errorf("Get: %v, %v", x, ok)
	}
	s.Put(Place{}, Tag{})
	if other := New(); other.Count() != 0 {
		t.Errorf("New behind a Put to others: Count %d", other.Count())
	}
	same(t, New(), m)
}

// P11.1, P11.2: the chapter's example, and what goes with it.
func TestExample(t *testing.T) {
	s := wantSteps(t,
		step{put(Place{3, 5}, Tag{1, 40}), Tag{}, api.OK, 1, 40},
		step{move(Place{3, 5}, Place{2, 0}, Tag{4, 70}), Tag{}, api.OK, 1, 70},
	)
	if got := s.Of(4); !slices.Equal(got, []Place{{Page: 2, Slot: 0}}) {
		t.Errorf("Of(4): %v", got)
	}
	if x, ok := s.Get(Place{Page: 2}); !ok || x != (Tag{Worker: 4, Size: 70}) {
		t.Errorf("Get({2, 0}): %v, %v", x, ok)
	}
	if x, ok := s.Get(Place{3, 5}); ok || x != (Tag{}) {
		t.Errorf("Get({3, 5}): %v, %v", x, ok)
	}
	if len(s.Of(1)) != 0 || len(s.In(3)) != 0 || !slices.Equal(s.In(2), []int{0}) {
		t.Errorf("Of(1): %v, In(3): %v, In(2): %v", s.Of(1), s.In(3), s.In(2))
	}
}

// P11.1: places at the least and the greatest page and slot, and one within each bound, have a tag by Put and by Move.
func TestPlacesWithinBounds(t *testing.T) {
	for _, page := range []int{0, 1, 4094, 4095} {
		for _, slot := range []int{0, 1, 126, 127} {
			p, other := Place{page, slot}, Place{2000, 60}
			s := wantSteps(t,
				step{put(p, Tag{5, 9}), Tag{}, api.OK, 1, 9},
				step{move(p, other, Tag{6, 8}), Tag{}, api.OK, 1, 8},
				step{move(other, p, Tag{7, 7}), Tag{}, api.OK, 1, 7},
				step{drop(p), Tag{7, 7}, api.OK, 0, 0},
				step{put(p, Tag{5, 9}), Tag{}, api.OK, 1, 9},
			)
			if got := s.In(page); !slices.Equal(got, []int{slot}) {
				t.Errorf("In(%d): %v", page, got)
			}
			if got := s.Of(5); !slices.Equal(got, []Place{p}) {
				t.Errorf("Of(5): %v", got)
			}
		}
	}
}

// P11.1: tags at the least and the greatest worker and size, and one within each bound, may be had.
func TestTagsWithinBounds(t *testing.T) {
	for _, worker := range []int{0, 1, 62, 63} {
		for _, size := range []int{0, 1, 1<<40 - 1, 1 << 40} {
			p, q, x := Place{3, 4}, Place{4, 3}, Tag{worker, size}
			s := wantSteps(t,
				step{put(p, x), Tag{}, api.OK, 1, size},
				step{put(q, Tag{9, 2}), Tag{}, api.OK, 2, size + 2},
				step{move(q, q, x), Tag{}, api.OK, 2, 2 * size},
				step{move(q, Place{0, 0}, x), Tag{}, api.OK, 2, 2 * size},
			)
			if got := s.Same(x); got != 2 {
				t.Errorf("Same(%v): %d", x, got)
			}
			if got := s.Of(worker); !slices.Equal(got, []Place{{0, 0}, {3, 4}}) {
				t.Errorf("Of(%d): %v", worker, got)
			}
			if y, errno := s.Drop(p); y != x || errno != api.OK {
				t.Errorf("Drop: %v, %v", y, errno)
			}
		}
	}
}

// P11.1: all pages with one slot, all slots of one page, and all workers may be had, and none beside them.
func TestEveryPageSlotAndWorker(t *testing.T) {
	for page := -3; page <= 4100; page++ {
		apply(t, New(), &plain{}, put(Place{page, 5}, Tag{1, 1}))
	}
	s, m := New(), &plain{}
	for slot := -3; slot <= 130; slot++ {
		apply(t, s, m, put(Place{7, slot}, Tag{1, 1}))
	}
	for worker := -3; worker <= 66; worker++ {
		apply(t, s, m, move(Place{7, 7}, Place{7, 7}, Tag{worker, 1}), put(Place{8, 7}, Tag{worker, 1}), drop(Place{8, 7}))
	}
	if s.Count() != 128 || len(s.In(7)) != 128 {
		t.Errorf("Count %d, In(7) %v", s.Count(), s.In(7))
	}
	same(t, s, m)
}

// P11.1: Put at a place that is none, or of a tag that is none, is ErrRange, and nothing changes.
func TestPutOutOfBounds(t *testing.T) {
	for _, calls := range [][]call{nil, {put(Place{}, Tag{})}, {put(lastPlace, lastTag), put(Place{0, 127}, Tag{3, 3})}} {
		s, m := after(t, calls...)
		for _, p := range noPlaces() {
			wantErrors(t, s, m, api.ErrRange, put(p, Tag{}), put(p, lastTag), put(p, Tag{64, 0}))
		}
		for _, x := range noTags() {
			wantErrors(t, s, m, api.ErrRange, put(Place{}, x), put(lastPlace, x), put(Place{8, 8}, x))
		}
	}
}

// P11.1: Put at a place that has a tag is ErrThere, with another tag and with the same one; ErrRange comes ahead of it.
func TestPutWhereOneIs(t *testing.T) {
	for _, p := range []Place{{0, 0}, {3, 5}, lastPlace} {
		for _, x := range []Tag{{0, 0}, {1, 40}, lastTag} {
			s, m := after(t, put(p, x))
			wantErrors(t, s, m, api.ErrThere, put(p, x), put(p, Tag{1, 41}), put(p, Tag{2, 40}), put(p, Tag{}), put(p, lastTag))
			wantErrors(t, s, m, api.ErrRange, put(p, Tag{-1, 0}), put(p, Tag{0, 1<<40 + 1}))
		}
	}
	wantSteps(t,
		step{put(Place{1, 1}, Tag{2, 3}), Tag{}, api.OK, 1, 3},
		step{put(Place{1, 1}, Tag{2, 3}), Tag{}, api.ErrThere, 1, 3},
		step{put(Place{1, 2}, Tag{2, 3}), Tag{}, api.OK, 2, 6},
		step{put(Place{2, 1}, Tag{2, 3}), Tag{}, api.OK, 3, 9},
		step{drop(Place{1, 1}), Tag{2, 3}, api.OK, 2, 6},
		step{put(Place{1, 1}, Tag{9, 1}), Tag{}, api.OK, 3, 7},
	)
}

// P11.1: Drop of a place that has a tag answers it; of one that has none, and of one that is none, noughts and ErrNone.
func TestDrop(t *testing.T) {
	wantSteps(t,
		step{drop(Place{}), Tag{}, api.ErrNone, 0, 0},
		step{put(Place{}, Tag{}), Tag{}, api.OK, 1, 0},
		step{drop(Place{}), Tag{}, api.OK, 0, 0},
		step{drop(Place{}), Tag{}, api.ErrNone, 0, 0},
		step{put(lastPlace, lastTag), Tag{}, api.OK, 1, 1 << 40},
		step{put(Place{4095, 126}, Tag{5, 6}), Tag{}, api.OK, 2, 1<<40 + 6},
		step{put(Place{4094, 127}, Tag{7, 8}), Tag{}, api.OK, 3, 1<<40 + 14},
		step{drop(Place{4094, 126}), Tag{}, api.ErrNone, 3, 1<<40 + 14},
		step{drop(lastPlace), lastTag, api.OK, 2, 14},
		step{drop(lastPlace), Tag{}, api.ErrNone, 2, 14},
		step{drop(Place{4094, 127}), Tag{7, 8}, api.OK, 1, 6},
		step{drop(Place{4095, 126}), Tag{5, 6}, api.OK, 0, 0},
	)
	s, m := after(t, put(Place{}, lastTag), put(lastPlace, lastTag), put(Place{0, 127}, lastTag), put(Place{4095, 0}, lastTag))
	for _, p := range noPlaces() {
		wantErrors(t, s, m, api.ErrNone, drop(p))
	}
}

// P11.1: Move to another place, ahead and behind, on the same page and on another one; the first place may be had again.
func TestMove(t *testing.T) {
	s := wantSteps(t,
		step{put(Place{5, 5}, Tag{1, 10}), Tag{}, api.OK, 1, 10},
		step{move(Place{5, 5}, Place{5, 4}, Tag{2, 20}), Tag{}, api.OK, 1, 20},
		step{move(Place{5, 4}, Place{5, 6}, Tag{2, 20}), Tag{}, api.OK, 1, 20},
		step{put(Place{5, 5}, Tag{3, 1}), Tag{}, api.OK, 2, 21},
		step{move(Place{5, 6}, Place{4, 6}, Tag{1, 0}), Tag{}, api.OK, 2, 1},
		step{move(Place{5, 5}, lastPlace, lastTag), Tag{}, api.OK, 2, 1 << 40},
		step{move(Place{4, 6}, Place{}, Tag{}), Tag{}, api.OK, 2, 1 << 40},
		step{move(Place{4, 6}, Place{}, Tag{}), Tag{}, api.ErrNone, 2, 1 << 40},
		step{move(lastPlace, Place{5, 5}, Tag{0, 7}), Tag{}, api.OK, 2, 7},
		step{move(Place{}, lastPlace, Tag{0, 3}), Tag{}, api.OK, 2, 10},
	)
	if got := told(s.All()); !slices.Equal(got, []pair{{Place{5, 5}, Tag{0, 7}}, {lastPlace, Tag{0, 3}}}) {
		t.Errorf("All: %v", got)
	}
}

// P11.1: Move to the same place, with the same tag and with another one.
func TestMoveToTheSamePlace(t *testing.T) {
	for _, p := range []Place{{0, 0}, {3, 5}, lastPlace} {
		s := wantSteps(t,
			step{put(p, Tag{1, 40}), Tag{}, api.OK, 1, 40},
			step{put(Place{3, 6}, Tag{1, 40}), Tag{}, api.OK, 2, 80},
			step{move(p, p, Tag{1, 40}), Tag{}, api.OK, 2, 80},
			step{move(p, p, Tag{2, 41}), Tag{}, api.OK, 2, 81},
			step{move(p, p, Tag{}), Tag{}, api.OK, 2, 40},
			step{move(p, p, Tag{64, 0}), Tag{}, api.ErrRange, 2, 40},
			step{move(p, p, lastTag), Tag{}, api.OK, 2, 1<<40 + 40},
		)
		if x, ok := s.Get(p); !ok || x != lastTag || s.Same(Tag{1, 40}) != 1 {
			t.Errorf("Get(%v): %v, %v, Same %d", p, x, ok, s.Same(Tag{1, 40}))
		}
	}
	s, m := after(t)
	wantErrors(t, s, m, api.ErrNone, move(Place{3, 5}, Place{3, 5}, Tag{1, 40}), move(Place{}, Place{}, Tag{}))
	wantErrors(t, s, m, api.ErrRange, move(Place{-1, 0}, Place{-1, 0}, Tag{}), move(Place{0, 128}, Place{0, 128}, Tag{}))
}

// P11.1: each error of Move alone: nothing changes, in neither place.
func TestMoveErrors(t *testing.T) {
	a, b, free := Place{0, 0}, Place{9, 127}, Place{9, 126}
	s, m := after(t, put(a, Tag{1, 2}), put(b, Tag{3, 4}))
	for _, to := range noPlaces() {
		wantErrors(t, s, m, api.ErrRange, move(a, to, Tag{1, 2}), move(b, to, Tag{}))
	}
	for _, x := range noTags() {
		wantErrors(t, s, m, api.ErrRange, move(a, free, x), move(a, a, x))
	}
	for _, from := range append(noPlaces(), free, Place{0, 1}, Place{1, 0}, lastPlace) {
		wantErrors(t, s, m, api.ErrNone, move(from, Place{50, 50}, Tag{1, 2}))
	}
	wantErrors(t, s, m, api.ErrThere, move(a, b, Tag{1, 2}), move(a, b, Tag{3, 4}), move(b, a, Tag{1, 2}), move(b, a, lastTag))
}

// P11.1: of several errors of Move the first one is told: ErrRange, ErrNone, ErrThere.
func TestMoveErrorsInOrder(t *testing.T) {
	a, b, free := Place{0, 0}, Place{9, 127}, Place{9, 126}
	s, m := after(t, put(a, Tag{1, 2}), put(b, Tag{3, 4}))
	for _, from := range append(noPlaces(), free) {
		for _, to := range noPlaces() {
			wantErrors(t, s, m, api.ErrRange, move(from, to, Tag{1, 2}), move(from, to, Tag{64, 0}))
		}
		for _, x := range noTags() {
			wantErrors(t, s, m, api.ErrRange, move(from, a, x), move(from, free, x))
		}
		wantErrors(t, s, m, api.ErrNone, move(from, a, Tag{1, 2}), move(from, b, Tag{}), move(from, b, lastTag))
	}
	for _, x := range noTags() {
		wantErrors(t, s, m, api.ErrRange, move(a, b, x), move(b, a, x))
	}
}

// P11.2: Get of places that have a tag, that have none and that are none; a tag of noughts is one, too.
func TestGet(t *testing.T) {
	s, m := after(t, put(Place{}, Tag{}), put(Place{3, 5}, Tag{1, 40}), put(lastPlace, lastTag))
	for _, y := range []struct {
		p  Place
		x  Tag
		ok bool
	}{
		{Place{}, Tag{}, true}, {Place{3, 5}, Tag{1, 40}, true}, {lastPlace, lastTag, true},
		{Place{0, 1}, Tag{}, false}, {Place{1, 0}, Tag{}, false}, {Place{5, 3}, Tag{}, false}, {Place{3, 4}, Tag{}, false}, {Place{4095, 126}, Tag{}, false},
	} {
		if x, ok := s.Get(y.p); x != y.x || ok != y.ok {
			t.Errorf("Get(%v): %v, %v", y.p, x, ok)
		}
	}
	for _, p := range noPlaces() {
		if x, ok := s.Get(p); ok || x != (Tag{}) {
			t.Errorf("Get(%v): %v, %v", p, x, ok)
		}
	}
	same(t, s, m)
}

// scattered: tags at several pages and slots, put in no order.
func scattered(t *testing.T) (*Tags, *plain) {
	t.Helper()
	return after(t,
		put(Place{9, 3}, Tag{1, 5}), put(Place{2, 127}, Tag{0, 6}), put(Place{9, 0}, Tag{1, 5}), put(lastPlace, Tag{1, 7}), put(Place{0, 100}, Tag{63, 0}),
		put(Place{2, 0}, Tag{1, 9}), put(Place{10, 1}, Tag{0, 6}), put(Place{9, 127}, Tag{63, 1}), put(Place{100, 2}, Tag{1, 5}), put(Place{9, 20}, Tag{0, 5}),
	)
}

// P11.2: In of pages with none, one and several slots, and of pages that are none.
func TestIn(t *testing.T) {
	s, _ := scattered(t)
	for _, y := range []struct {
		page int
		want []int
	}{
		{0, []int{100}}, {1, nil}, {2, []int{0, 127}}, {9, []int{0, 3, 20, 127}}, {10, []int{1}}, {100, []int{2}}, {4094, nil}, {4095, []int{127}},
		{-1, nil}, {4096, nil}, {math.MinInt, nil}, {math.MaxInt, nil},
	} {
		if got := s.In(y.page); !slices.Equal(got, y.want) {
			t.Errorf("In(%d): %v, not %v", y.page, got, y.want)
		}
	}
}

// P11.2: Of workers with none, one and several places, and of workers that are none.
func TestOf(t *testing.T) {
	s, _ := scattered(t)
	for _, y := range []struct {
		worker int
		want   []Place
	}{
		{0, []Place{{2, 127}, {9, 20}, {10, 1}}}, {1, []Place{{2, 0}, {9, 0}, {9, 3}, {100, 2}, {4095, 127}}}, {2, nil}, {5, nil}, {62, nil}, {63, []Place{{0, 100}, {9, 127}}},
		{-1, nil}, {64, nil}, {math.MinInt, nil}, {math.MaxInt, nil},
	} {
		if got := s.Of(y.worker); !slices.Equal(got, y.want) {
			t.Errorf("Of(%d): %v, not %v", y.worker, got, y.want)
		}
	}
}

// P11.2: Same of tags that none, one and several places have, and of tags that are none; both numbers count.
func TestSame(t *testing.T) {
	s, _ := scattered(t)
	for _, y := range []struct {
		x    Tag
		want int
	}{
		{Tag{1, 5}, 3}, {Tag{0, 6}, 2}, {Tag{1, 7}, 1}, {Tag{63, 0}, 1}, {Tag{0, 5}, 1}, {Tag{63, 1}, 1}, {Tag{1, 6}, 0}, {Tag{5, 1}, 0}, {Tag{0, 0}, 0}, {Tag{0, 63}, 0}, {lastTag, 0},
		{Tag{-1, 5}, 0}, {Tag{64, 0}, 0}, {Tag{1, -1}, 0}, {Tag{1, 1<<40 + 1}, 0}, {Tag{math.MinInt, math.MaxInt}, 0},
	} {
		if got := s.Same(y.x); got != y.want {
			t.Errorf("Same(%v): %d, not %d", y.x, got, y.want)
		}
	}
}

// P11.2: All tells the places by their pages and slots, however they came.
func TestAll(t *testing.T) {
	s, _ := scattered(t)
	want := []pair{
		{Place{0, 100}, Tag{63, 0}}, {Place{2, 0}, Tag{1, 9}}, {Place{2, 127}, Tag{0, 6}}, {Place{9, 0}, Tag{1, 5}}, {Place{9, 3}, Tag{1, 5}},
		{Place{9, 20}, Tag{0, 5}}, {Place{9, 127}, Tag{63, 1}}, {Place{10, 1}, Tag{0, 6}}, {Place{100, 2}, Tag{1, 5}}, {Place{4095, 127}, Tag{1, 7}},
	}
	if got := told(s.All()); !slices.Equal(got, want) {
		t.Errorf("All: %v", got)
	}
	if s.Count() != 10 || s.Bytes() != 49 {
		t.Errorf("Count %d, Bytes %d", s.Count(), s.Bytes())
	}
}

// P11.2: all places of all pages, with the greatest size: the sum doesn't go round.
func TestAllPlaces(t *testing.T) {
	s := New()
	for page := 4095; page >= 0; page-- {
		for slot := range 128 {
			if errno := s.Put(Place{page, slot}, Tag{page % 64, 1 << 40}); errno != api.OK {
				t.Fatalf("Put({%d, %d}): %v", page, slot, errno)
			}
		}
	}
	if s.Count() != 524288 || s.Bytes() != 1<<59 || s.Same(lastTag) != 8192 || len(s.Of(63)) != 8192 || len(s.In(77)) != 128 {
		t.Errorf("Count %d, Bytes %d, Same %d", s.Count(), s.Bytes(), s.Same(lastTag))
	}
	k := 0
	for p, x := range s.All() {
		if want := (Place{k / 128, k % 128}); p != want || x != (Tag{p.Page % 64, 1 << 40}) {
			t.Fatalf("All, at %d: %v, %v", k, p, x)
		}
		k++
	}
	if k != 524288 {
		t.Errorf("All: %d places", k)
	}
	if s.Put(lastPlace, lastTag) != api.ErrThere || s.Move(Place{}, lastPlace, Tag{}) != api.ErrThere || s.Move(Place{}, Place{}, Tag{}) != api.OK || s.Bytes() != 1<<59-1<<40 {
		t.Errorf("Bytes %d", s.Bytes())
	}
}

// P11.2, rule 7: an iterator is told whole, is stopped after each number of places, and begins anew each time.
func TestAllStoppedAndBegunAgain(t *testing.T) {
	s, m := scattered(t)
	all := s.All()
	for stop := 1; stop <= 11; stop++ {
		var got []pair
		all(func(p Place, x Tag) bool {
			got = append(got, pair{p, x})
			return len(got) < stop
		})
		if want := m.held[:min(stop, 10)]; !slices.Equal(got, want) {
			t.Errorf("stopped after %d: %v", stop, got)
		}
	}
	for range 2 {
		if got := told(all); !slices.Equal(got, m.held) {
			t.Errorf("begun again: %v", got)
		}
	}
	for range New().All() {
		t.Error("no tags told one")
	}
	same(t, s, m)
}

// P11.2, rule 7: one iterator within another tells all of it each time.
func TestAllWithinAll(t *testing.T) {
	s, m := scattered(t)
	all := s.All()
	var outer []pair
	for p, x := range all {
		outer = append(outer, pair{p, x})
		if got := told(all); !slices.Equal(got, m.held) {
			t.Errorf("within, at %v: %v", p, got)
		}
	}
	if !slices.Equal(outer, m.held) {
		t.Errorf("around: %v", outer)
	}
}

// P11.2, rule 7: an iterator tells the places and tags as they were when it began, whatever changes while it goes on.
func TestAllWhileTagsChange(t *testing.T) {
	for name, change := range map[string]func(s *Tags, p Place){
		"the place leaves":          func(s *Tags, p Place) { s.Drop(p) },
		"a later one leaves":        func(s *Tags, _ Place) { s.Drop(lastPlace) },
		"an earlier one leaves":     func(s *Tags, _ Place) { s.Drop(Place{0, 100}) },
		"one comes ahead":           func(s *Tags, _ Place) { s.Put(Place{}, Tag{}) },
		"one comes behind":          func(s *Tags, p Place) { s.Put(Place{p.Page + 1, 0}, Tag{}) },
		"it moves ahead":            func(s *Tags, p Place) { s.Move(p, Place{0, p.Slot}, Tag{}) },
		"it moves behind":           func(s *Tags, p Place) { s.Move(p, Place{4000, p.Slot}, Tag{}) },
		"its tag is another one":    func(s *Tags, p Place) { s.Move(p, p, Tag{2, 2}) },
		"a later tag is another":    func(s *Tags, _ Place) { s.Move(lastPlace, lastPlace, Tag{2, 2}) },
		"it leaves and comes again": func(s *Tags, p Place) { s.Drop(p); s.Put(p, Tag{8, 8}) },
		"all leave": func(s *Tags, _ Place) {
			for _, y := range told(s.All()) {
				s.Drop(y.p)
			}
		},
	} {
		s, m := scattered(t)
		all := s.All()
		var got []pair
		for p, x := range all {
			got = append(got, pair{p, x})
			change(s, p)
		}
		if !slices.Equal(got, m.held) {
			t.Errorf("%s: %v", name, got)
		}
		// Begun again, it tells what there is then.
		if again := told(all); !slices.Equal(again, told(s.All())) || slices.Equal(again, m.held) || len(again) != s.Count() {
			t.Errorf("%s: begun again: %v", name, again)
		}
	}
}

// P11.2: an iterator that was asked for ahead of a change tells what there is when it begins.
func TestAllBeginsWithTheLoop(t *testing.T) {
	s := New()
	all := s.All()
	s.Put(Place{3, 5}, Tag{1, 40})
	if got := told(all); !slices.Equal(got, []pair{{Place{3, 5}, Tag{1, 40}}}) {
		t.Errorf("behind Put: %v", got)
	}
	s.Move(Place{3, 5}, Place{2, 0}, Tag{4, 70})
	if got := told(all); !slices.Equal(got, []pair{{Place{2, 0}, Tag{4, 70}}}) {
		t.Errorf("behind Move: %v", got)
	}
	s.Drop(Place{2, 0})
	if got := told(all); len(got) != 0 {
		t.Errorf("behind Drop: %v", got)
	}
}

// P11.2: a clone is the same, and a change of either side doesn't change the other one.
func TestClone(t *testing.T) {
	base, plainBase := scattered(t)
	changes := []call{
		put(Place{9, 1}, Tag{5, 5}), drop(Place{9, 3}), move(Place{9, 3}, Place{9, 4}, Tag{1, 5}), move(Place{9, 3}, Place{9, 3}, Tag{2, 2}),
		move(lastPlace, Place{}, lastTag), put(Place{9, 3}, Tag{5, 5}), drop(Place{1, 1}), drop(Place{0, 100}),
	}
	for _, x := range changes {
		for _, y := range changes {
			s, m := base.Clone(), plainBase.clone()
			c, q := s.Clone(), m.clone()
			same(t, c, q)
			apply(t, s, m, x)
			same(t, s, m)
			same(t, c, q)
			apply(t, c, q, y)
			same(t, s, m)
			same(t, c, q)
		}
	}
	same(t, base, plainBase)
	empty := New()
	c := empty.Clone()
	if c.Put(Place{}, Tag{1, 1}) != api.OK || c.Count() != 1 || empty.Count() != 0 {
		t.Errorf("a clone of none: Count %d, %d", c.Count(), empty.Count())
	}
}

// P11.2: an iterator stays with the tags of which it was asked, also while a clone changes.
func TestAllAndClone(t *testing.T) {
	s, m := scattered(t)
	all := s.All()
	c := s.Clone()
	var got []pair
	for p, x := range all {
		got = append(got, pair{p, x})
		c.Drop(p)
	}
	if !slices.Equal(got, m.held) || c.Count() != 0 {
		t.Errorf("All: %v; the clone has %d", got, c.Count())
	}
	same(t, s, m)
	c.Put(Place{1, 1}, Tag{1, 1})
	if got := told(all); !slices.Equal(got, m.held) {
		t.Errorf("begun again: %v", got)
	}
}

// P11.2, rule 4: what In and Of answer is new memory, its spare room too.
func TestAnswersAreNewMemory(t *testing.T) {
	s, m := scattered(t)
	for range 2 {
		slots, places := s.In(9), s.Of(1)
		againSlots, againPlaces := s.In(9), s.Of(1)
		spoil(slots, -77)
		spoil(places, Place{-7, -7})
		same(t, s, m)
		if !slices.Equal(againSlots, m.in(9)) || !slices.Equal(againPlaces, m.of(1)) {
			t.Errorf("answers share memory: %v, %v", againSlots, againPlaces)
		}
	}
	slots, places := s.In(9), s.Of(1)
	s.Drop(Place{9, 0})
	s.Put(Place{9, 1}, Tag{1, 1})
	if !slices.Equal(slots, []int{0, 3, 20, 127}) || !slices.Equal(places, m.of(1)) {
		t.Errorf("a change is seen in earlier answers: %v, %v", slots, places)
	}
}

// spoil: a list's elements, up to its capacity, become something else.
func spoil[E any](list []E, other E) {
	list = list[:cap(list)]
	for k := range list {
		list[k] = other
	}
}

// P11.2: what only tells changes nothing.
func TestTellingChangesNothing(t *testing.T) {
	s, m := scattered(t)
	for number := -1; number <= 200; number++ {
		s.Get(Place{number, 1})
		s.In(number)
		s.Of(number)
		s.Same(Tag{number, 1})
	}
	for range s.All() {
		break
	}
	s.Clone()
	if s.Count() != 10 || s.Bytes() != 49 {
		t.Errorf("Count %d, Bytes %d", s.Count(), s.Bytes())
	}
	same(t, s, m)
}

// walk: every call behind every row of calls, each on a clone; the one that was cloned stays as it was.
func walk(t *testing.T, s *Tags, m *plain, calls []call, depth int) {
	t.Helper()
	sameWhole(t, s, m)
	for page := -1; page <= 2; page++ {
		samePage(t, s, m, page)
		sameWorker(t, s, m, page)
		for slot := -1; slot <= 2; slot++ {
			samePlace(t, s, m, Place{page, slot})
			sameTag(t, s, m, Tag{page, slot})
		}
	}
	if depth == 0 {
		return
	}
	for _, c := range calls {
		next, q := s.Clone(), m.clone()
		apply(t, next, q, c)
		walk(t, next, q, calls, depth-1)
	}
	sameWhole(t, s, m)
}

// P11.1, P11.2: every row of up to three calls with few places and tags, some of which are none.
func TestEveryRowOfCalls(t *testing.T) {
	places := []Place{{0, 0}, {0, 1}, {1, 0}, {0, -1}}
	tags := []Tag{{0, 0}, {1, 2}, {-1, 0}}
	var calls []call
	for _, p := range places {
		calls = append(calls, drop(p))
		for _, x := range tags {
			calls = append(calls, put(p, x))
			for _, q := range places {
				calls = append(calls, move(p, q, x))
			}
		}
	}
	walk(t, New(), &plain{}, calls, 2)
	for _, x := range []call{put(places[0], tags[0]), put(places[1], tags[1]), put(places[2], tags[1])} {
		s, m := after(t, x)
		walk(t, s, m, calls, 2)
	}
	s, m := after(t, put(places[2], tags[1]), put(places[0], tags[1]), put(places[1], tags[0]))
	walk(t, s, m, calls, 2)
}

// picks: a row of numbers that is always the same and looks like none.
type picks uint64

func (k *picks) below(n int) int {
	*k = *k*6364136223846793005 + 1442695040888963407
	return int(uint64(*k)>>33) % n
}

// place: one of few or of many, and now and then one that is none.
func (k *picks) place(pages, slots int) Place {
	p := Place{k.below(pages), k.below(slots)}
	switch k.below(40) {
	case 0:
		p.Page = -1
	case 1:
		p.Slot = 128
	}
	return p
}

// tag: one that is right, and now and then one that is beyond a bound.
func (k *picks) tag() Tag {
	x := Tag{k.below(64), k.below(20)}
	switch k.below(40) {
	case 0:
		x.Worker = 64
	case 1:
		x.Size = 1<<40 + 1
	case 2:
		x = lastTag
	}
	return x
}

// P11.1, P11.2: many calls one after another, on few places and on many.
func TestManyChanges(t *testing.T) {
	for _, y := range []struct{ pages, slots, calls int }{{1, 1, 300}, {2, 2, 1000}, {1, 128, 800}, {4096, 1, 500}, {6, 6, 800}, {4096, 128, 400}} {
		s, m := New(), &plain{}
		k := picks(y.pages + y.slots)
		for range y.calls {
			p, q := k.place(y.pages, y.slots), k.place(y.pages, y.slots)
			if len(m.held) > 0 && k.below(3) == 0 {
				// A place that has a tag, so that Drop and Move do something where there are many places.
				p = m.held[k.below(len(m.held))].p
			}
			apply(t, s, m, []call{put(p, k.tag()), put(q, k.tag()), drop(p), move(p, q, k.tag()), move(p, p, k.tag())}[k.below(5)])
			sameWhole(t, s, m)
			samePage(t, s, m, p.Page)
			samePage(t, s, m, q.Page)
			samePlace(t, s, m, p)
			samePlace(t, s, m, q)
		}
		same(t, s, m)
	}
}

// P11.1, P11.2, P1: every call at any numbers.
func TestAnyNumbers(t *testing.T) {
	for _, calls := range [][]call{nil, {put(Place{}, Tag{})}, {put(Place{3, 5}, Tag{1, 40}), put(lastPlace, lastTag), put(Place{63, 63}, Tag{63, 63})}} {
		s, m := after(t, calls...)
		for _, number := range hostileInts() {
			samePage(t, s, m, number)
			sameWorker(t, s, m, number)
			for _, other := range []int{math.MinInt, -1, 0, 5, 63, 64, 127, 128, 4095, 4096, 1 << 32, 1 << 40, 1<<40 + 1, math.MaxInt} {
				for _, pair := range [][2]int{{number, other}, {other, number}} {
					p, x := Place{pair[0], pair[1]}, Tag{pair[0], pair[1]}
					samePlace(t, s, m, p)
					sameTag(t, s, m, x)
					for _, c := range []call{put(p, Tag{2, 2}), put(Place{8, 8}, x), drop(p), move(p, Place{8, 8}, Tag{2, 2}), move(Place{3, 5}, p, Tag{2, 2}), move(p, p, x), move(Place{3, 5}, Place{8, 8}, x)} {
						one, q := s.Clone(), m.clone()
						apply(t, one, q, c)
						sameWhole(t, one, q)
					}
				}
			}
		}
		same(t, s, m)
	}
}
