package ring

import (
	"math"
	"slices"
	"testing"

	"underpin/api"
)

// plain: what items and lists are by the chapter, told by lists that are searched from end to end.
type plain struct {
	items int
	lists [][]int
}

func newPlain(items, lists int) *plain { return &plain{items, make([][]int, lists)} }

func (p *plain) hasItem(item int) bool { return 0 <= item && item < p.items }

func (p *plain) hasList(list int) bool { return 0 <= list && list < len(p.lists) }

// find: an item's list, and its place there.
func (p *plain) find(item int) (int, int) {
	for list, items := range p.lists {
		if at := slices.Index(items, item); at >= 0 {
			return list, at
		}
	}
	return -1, -1
}

func (p *plain) put(list, item int, last bool) api.Errno {
	if !p.hasList(list) || !p.hasItem(item) {
		return api.ErrRange
	}
	if in, _ := p.find(item); in >= 0 {
		return api.ErrThere
	}
	if last {
		p.lists[list] = append(p.lists[list], item)
	} else {
		p.lists[list] = slices.Insert(p.lists[list], 0, item)
	}
	return api.OK
}

func (p *plain) remove(item int) api.Errno {
	if !p.hasItem(item) {
		return api.ErrRange
	}
	list, at := p.find(item)
	if list < 0 {
		return api.ErrNone
	}
	p.lists[list] = slices.Delete(p.lists[list], at, at+1)
	return api.OK
}

func (p *plain) pop(list int) (int, bool) {
	if !p.hasList(list) || len(p.lists[list]) == 0 {
		return -1, false
	}
	item := p.lists[list][0]
	p.remove(item)
	return item, true
}

func (p *plain) clone() *plain {
	c := newPlain(p.items, len(p.lists))
	for list, items := range p.lists {
		c.lists[list] = slices.Clone(items)
	}
	return c
}

// told: what an iterator yields till it ends.
func told(each func(yield func(int) bool)) []int {
	var items []int
	for item := range each {
		items = append(items, item)
	}
	return items
}

// hostileInts: numbers at which an item, a list or a bound may go wrong among so many.
func hostileInts(items, lists int) []int {
	list := []int{math.MinInt, math.MinInt + 1, math.MaxInt - 1, math.MaxInt, 1<<32 + 1, -1 << 32, 0x5555555555555555}
	for k := range 63 {
		list = append(list, 1<<k, -1<<k, 1<<k-1)
	}
	for d := -2; d <= 2; d++ {
		list = append(list, d, items+d, lists+d, items+lists+d, 256+d, 4096+d, math.MaxInt-items+d-2, math.MinInt+items+d+2)
	}
	return list
}

// same: every call that tells something tells what the plain lists hold.
func same(t *testing.T, r *Rings, p *plain) {
	t.Helper()
	for list, items := range p.lists {
		sameList(t, r, list, items)
	}
	for item := range p.items {
		in, at := p.find(item)
		next := -1
		if in >= 0 && at+1 < len(p.lists[in]) {
			next = p.lists[in][at+1]
		}
		if got := r.In(item); got != in {
			t.Fatalf("In(%d): %d, not %d", item, got, in)
		}
		if got := r.Next(item); got != next {
			t.Fatalf("Next(%d): %d, not %d", item, got, next)
		}
	}
}

// sameList: a list tells so many items, in this order.
func sameList(t *testing.T, r *Rings, list int, items []int) {
	t.Helper()
	first := -1
	if len(items) > 0 {
		first = items[0]
	}
	if got := r.First(list); got != first {
		t.Fatalf("First(%d): %d, not %d", list, got, first)
	}
	if got := r.Len(list); got != len(items) {
		t.Fatalf("Len(%d): %d, not %d", list, got, len(items))
	}
	if got := r.All(list); !slices.Equal(got, items) {
		t.Fatalf("All(%d): %v, not %v", list, got, items)
	}
	if got := told(r.Each(list)); !slices.Equal(got, items) {
		t.Fatalf("Each(%d): %v, not %v", list, got, items)
	}
}

// begin: the list 0 of some items, put there by Append.
func begin(t *testing.T, items, lists int, in ...int) (*Rings, *plain) {
	t.Helper()
	r, errno := New(items, lists)
	if errno != api.OK || r == nil {
		t.Fatalf("New(%d, %d): %v", items, lists, errno)
	}
	p := newPlain(items, lists)
	for _, item := range in {
		if errno := r.Append(0, item); errno != api.OK {
			t.Fatalf("Append(0, %d): %v", item, errno)
		}
		p.lists[0] = append(p.lists[0], item)
	}
	return r, p
}

// P7.1: New's bounds; each item is in no list, at first.
func TestNew(t *testing.T) {
	for _, c := range [][2]int{{0, 1}, {0, 256}, {1, 1}, {2, 255}, {4095, 2}, {4096, 1}, {4096, 256}} {
		r, p := begin(t, c[0], c[1])
		same(t, r, p)
		if errno := r.Push(c[1]-1, c[0]-1); (errno == api.OK) != (c[0] > 0) {
			t.Errorf("New(%d, %d): the last item in the last list: %v", c[0], c[1], errno)
		}
		if errno := r.Push(c[1], 0); errno != api.ErrRange {
			t.Errorf("New(%d, %d): Push beyond the last list: %v", c[0], c[1], errno)
		}
		if errno := r.Push(0, c[0]); errno != api.ErrRange {
			t.Errorf("New(%d, %d): Push of an item beyond the last: %v", c[0], c[1], errno)
		}
	}
}

// P7.1, P1: New of numbers out of bounds, and of any numbers.
func TestNewOutOfBounds(t *testing.T) {
	numbers := hostileInts(4096, 256)
	for _, items := range numbers {
		for _, lists := range numbers {
			r, errno := New(items, lists)
			fits := 0 <= items && items <= 4096 && 1 <= lists && lists <= 256
			if fits && (r == nil || errno != api.OK) || !fits && (r != nil || errno != api.ErrRange) {
				t.Fatalf("New(%d, %d): %v", items, lists, errno)
			}
		}
	}
}

// P7.1: the chapter's example.
func TestExample(t *testing.T) {
	r, _ := begin(t, 6, 1)
	if r.Push(0, 3) != api.OK || r.Push(0, 5) != api.OK || r.Append(0, 1) != api.OK {
		t.Error("an item wasn't put into the list")
	}
	if got := r.All(0); !slices.Equal(got, []int{5, 3, 1}) {
		t.Error(got)
	}
}

// P7.1: Push and Append into a list without items, with one, and with several.
func TestPushAndAppend(t *testing.T) {
	for n := range 4 {
		in := []int{4, 0, 6}[:n]
		r, p := begin(t, 8, 3, in...)
		if errno := r.Push(0, 7); errno != api.OK {
			t.Fatalf("Push into %v: %v", in, errno)
		}
		p.lists[0] = append([]int{7}, in...)
		same(t, r, p)

		r, p = begin(t, 8, 3, in...)
		if errno := r.Append(0, 7); errno != api.OK {
			t.Fatalf("Append into %v: %v", in, errno)
		}
		p.lists[0] = append(slices.Clone(in), 7)
		same(t, r, p)
	}
}

// P7.1: an item that is in this list, or in another one, stays where it is.
func TestThere(t *testing.T) {
	r, p := begin(t, 6, 3, 2, 0, 5)
	if r.Push(2, 4) != api.OK {
		t.Fatal("Push(2, 4)")
	}
	p.lists[2] = []int{4}
	for _, list := range []int{0, 1, 2} {
		for _, item := range []int{2, 0, 5, 4} {
			if errno := r.Push(list, item); errno != api.ErrThere {
				t.Errorf("Push(%d, %d): %v", list, item, errno)
			}
			if errno := r.Append(list, item); errno != api.ErrThere {
				t.Errorf("Append(%d, %d): %v", list, item, errno)
			}
			same(t, r, p)
		}
	}
	// That there is no such list is named first.
	if r.Push(3, 2) != api.ErrRange || r.Append(-1, 2) != api.ErrRange {
		t.Error("an item that is there, into no list")
	}
	same(t, r, p)
}

// P7.1: Remove of the first, a middle, the last and the only item, of one that is in none, and of none.
func TestRemove(t *testing.T) {
	for _, c := range []struct {
		in   []int
		item int
		left []int
	}{
		{[]int{3, 1, 4, 0}, 3, []int{1, 4, 0}},
		{[]int{3, 1, 4, 0}, 1, []int{3, 4, 0}},
		{[]int{3, 1, 4, 0}, 4, []int{3, 1, 0}},
		{[]int{3, 1, 4, 0}, 0, []int{3, 1, 4}},
		{[]int{3, 1}, 3, []int{1}},
		{[]int{3, 1}, 1, []int{3}},
		{[]int{0}, 0, nil},
		{[]int{5}, 5, nil},
	} {
		r, p := begin(t, 6, 2, c.in...)
		if errno := r.Remove(c.item); errno != api.OK {
			t.Fatalf("Remove(%d) of %v: %v", c.item, c.in, errno)
		}
		p.lists[0] = c.left
		same(t, r, p)
		if errno := r.Remove(c.item); errno != api.ErrNone {
			t.Errorf("Remove(%d) of %v, again: %v", c.item, c.in, errno)
		}
		if errno := r.Remove(2); errno != api.ErrNone {
			t.Errorf("Remove of an item that was in none: %v", errno)
		}
		if r.Remove(6) != api.ErrRange || r.Remove(-1) != api.ErrRange {
			t.Error("Remove of no item")
		}
		same(t, r, p)
		// What left may come back, to another list as well.
		if errno := r.Append(1, c.item); errno != api.OK {
			t.Errorf("Append(1, %d): %v", c.item, errno)
		}
		p.lists[1] = []int{c.item}
		same(t, r, p)
	}
}

// P7.1: Pop of a list with several items, with one, with none, and of no list.
func TestPop(t *testing.T) {
	r, p := begin(t, 5, 2, 4, 0, 2)
	for _, want := range []int{4, 0, 2} {
		if item, ok := r.Pop(0); item != want || !ok {
			t.Fatalf("Pop: %d, %v, not %d", item, ok, want)
		}
		p.lists[0] = p.lists[0][1:]
		same(t, r, p)
		if r.In(want) != -1 || r.Next(want) != -1 || r.Remove(want) != api.ErrNone {
			t.Errorf("%d is in a list behind Pop", want)
		}
	}
	r.Push(0, 3)
	p.lists[0] = []int{3}
	for _, list := range []int{1, 2, -1, math.MaxInt, math.MinInt} {
		if item, ok := r.Pop(list); item != -1 || ok {
			t.Errorf("Pop(%d): %d, %v", list, item, ok)
		}
		same(t, r, p)
	}
	if item, ok := r.Pop(0); item != 3 || !ok {
		t.Errorf("Pop of the only one: %d, %v", item, ok)
	}
	if item, ok := r.Pop(0); item != -1 || ok {
		t.Errorf("Pop of an empty list: %d, %v", item, ok)
	}
}

// P7.1, P7.2: lists hold what plain ones do, after each of many changes.
func TestManyChanges(t *testing.T) {
	for _, c := range [][2]int{{0, 1}, {1, 1}, {1, 3}, {2, 1}, {3, 2}, {7, 3}, {12, 5}} {
		r, p := begin(t, c[0], c[1])
		seed := uint64(1)
		draw := func(n int) int {
			seed = seed*6364136223846793005 + 1442695040888963407
			return int(seed>>33) % n
		}
		for range 3000 {
			// One below and one beyond is drawn as well.
			change(t, r, p, draw(6), draw(c[1]+2)-1, draw(c[0]+2)-1)
			same(t, r, p)
		}
	}
}

// change: one change on both sides, which answer alike.
func change(t *testing.T, r *Rings, p *plain, kind, list, item int) {
	t.Helper()
	switch kind {
	case 0, 1:
		if got, want := r.Push(list, item), p.put(list, item, false); got != want {
			t.Fatalf("Push(%d, %d): %v, not %v", list, item, got, want)
		}
	case 2, 3:
		if got, want := r.Append(list, item), p.put(list, item, true); got != want {
			t.Fatalf("Append(%d, %d): %v, not %v", list, item, got, want)
		}
	case 4:
		if got, want := r.Remove(item), p.remove(item); got != want {
			t.Fatalf("Remove(%d): %v, not %v", item, got, want)
		}
	case 5:
		got, ok := r.Pop(list)
		if want, has := p.pop(list); got != want || ok != has {
			t.Fatalf("Pop(%d): %d, %v, not %d, %v", list, got, ok, want, has)
		}
	}
}

// P7.1, P7.2: all the items in one list, and then each in a list of its rest.
func TestGreatest(t *testing.T) {
	r, _ := begin(t, 4096, 256)
	var want []int
	for item := range 4096 {
		if r.Append(255, item) != api.OK {
			t.Fatal(item)
		}
		want = append(want, item)
	}
	sameList(t, r, 255, want)
	sameList(t, r, 0, nil)
	rest := make([][]int, 256)
	for item := range 4096 {
		if got, ok := r.Pop(255); got != item || !ok {
			t.Fatalf("Pop: %d, %v, not %d", got, ok, item)
		}
		list := item % 255
		if r.Push(list, item) != api.OK {
			t.Fatal(item)
		}
		rest[list] = slices.Insert(rest[list], 0, item)
	}
	for list, items := range rest {
		sameList(t, r, list, items)
	}
	if r.In(4095) != 4095%255 || r.Next(4095) != 4095-255 || r.Next(15) != -1 {
		t.Error("the last item")
	}
}

// P7.2: an item that is in none, an empty list, and what there isn't.
func TestNothing(t *testing.T) {
	r, p := begin(t, 4, 2, 1, 3)
	if r.In(0) != -1 || r.Next(0) != -1 || r.In(1) != 0 || r.Next(1) != 3 || r.Next(3) != -1 {
		t.Error("In, Next")
	}
	sameList(t, r, 1, nil)
	for _, n := range []int{-1, 2, 4, 5, 6, 7} {
		if r.In(n) != -1 || r.Next(n) != -1 {
			t.Errorf("In(%d), Next(%d): %d, %d", n, n, r.In(n), r.Next(n))
		}
		sameList(t, r, n, nil)
	}
	same(t, r, p)
}

// P7.2: what left a list hasn't its old neighbour behind it.
func TestNextOfWhatLeft(t *testing.T) {
	r, _ := begin(t, 4, 1, 0, 1, 2, 3)
	r.Remove(1)
	r.Pop(0)
	if r.Next(1) != -1 || r.Next(0) != -1 || r.In(1) != -1 || r.In(0) != -1 {
		t.Error(r.Next(1), r.Next(0))
	}
}

// P7.2: an iterator is told whole, is stopped after each number of items, and begins anew each time.
func TestEachStoppedAndBegunAgain(t *testing.T) {
	r, p := begin(t, 6, 2, 5, 2, 0, 4)
	each := r.Each(0)
	for stop := 1; stop <= 5; stop++ {
		var got []int
		each(func(item int) bool {
			got = append(got, item)
			return len(got) < stop
		})
		if want := p.lists[0][:min(stop, 4)]; !slices.Equal(got, want) {
			t.Errorf("stopped after %d: %v", stop, got)
		}
	}
	if got := told(each); !slices.Equal(got, p.lists[0]) {
		t.Errorf("begun again: %v", got)
	}
	for range r.Each(1) {
		t.Error("an empty list told an item")
	}
	same(t, r, p)
}

// P7.2, rule 7: one iterator within another, of the same list, tells all of it each time.
func TestEachWithinEach(t *testing.T) {
	r, p := begin(t, 6, 1, 3, 1, 5)
	each := r.Each(0)
	var outer []int
	for item := range each {
		outer = append(outer, item)
		if got := told(each); !slices.Equal(got, p.lists[0]) {
			t.Errorf("within, at %d: %v", item, got)
		}
	}
	if !slices.Equal(outer, p.lists[0]) {
		t.Errorf("around: %v", outer)
	}
}

// P7.2, rule 7: an iterator tells the items as they were when it began, whatever changes while it goes on.
func TestEachWhileListsChange(t *testing.T) {
	changes := map[string]func(r *Rings, item int){
		"the item leaves":      func(r *Rings, item int) { r.Remove(item) },
		"the next one leaves":  func(r *Rings, item int) { r.Remove(r.Next(item)) },
		"the last one leaves":  func(r *Rings, _ int) { r.Remove(7) },
		"the first one leaves": func(r *Rings, _ int) { r.Pop(0) },
		"one comes first":      func(r *Rings, _ int) { r.Push(0, 0) },
		"one comes last":       func(r *Rings, _ int) { r.Append(0, 0) },
		"it moves elsewhere":   func(r *Rings, item int) { r.Remove(item); r.Append(1, item) },
		"it moves to the end":  func(r *Rings, item int) { r.Remove(item); r.Append(0, item) },
		"all leave": func(r *Rings, _ int) {
			for range 4 {
				r.Pop(0)
			}
		},
	}
	for name, change := range changes {
		r, p := begin(t, 8, 2, 6, 1, 3, 7)
		var got []int
		each := r.Each(0)
		for item := range each {
			got = append(got, item)
			change(r, item)
		}
		if !slices.Equal(got, p.lists[0]) {
			t.Errorf("%s: %v", name, got)
		}
		// Begun again, it tells what there is then.
		if got := told(each); !slices.Equal(got, r.All(0)) {
			t.Errorf("%s: begun again: %v, not %v", name, got, r.All(0))
		}
	}
}

// P7.2: an iterator of a list that there isn't yields nothing, and stays so.
func TestEachOfNoList(t *testing.T) {
	r, _ := begin(t, 4, 2, 0, 1, 2, 3)
	for _, list := range []int{-1, 2, 3, 256, math.MinInt, math.MaxInt} {
		each := r.Each(list)
		if each == nil {
			t.Fatalf("Each(%d): nil", list)
		}
		if got := told(each); len(got) != 0 {
			t.Errorf("Each(%d): %v", list, got)
		}
	}
}

// P7.2: a change of either side doesn't change the other one.
func TestClone(t *testing.T) {
	base, plainBase := begin(t, 9, 3, 4, 0, 7)
	for _, item := range []int{2, 8} {
		base.Append(2, item)
		plainBase.put(2, item, true)
	}
	for kind := range 6 {
		for list := range 3 {
			for item := range 9 {
				r, p := base.Clone(), plainBase.clone()
				c, q := r.Clone(), p.clone()
				same(t, c, q)
				change(t, r, p, kind, list, item)
				same(t, c, q)
				same(t, r, p)
				change(t, c, q, 5-kind, list, item)
				same(t, c, q)
				same(t, r, p)
			}
		}
	}
	same(t, base, plainBase)
}

// P7.2: a clone has the same bounds, and an iterator of the first lists stays with these.
func TestCloneStandsAlone(t *testing.T) {
	r, _ := begin(t, 3, 2, 2, 0)
	each := r.Each(0)
	c := r.Clone()
	c.Pop(0)
	if got := told(each); !slices.Equal(got, []int{2, 0}) {
		t.Error(got)
	}
	if c.Append(1, 3) != api.ErrRange || c.Append(2, 1) != api.ErrRange || c.Append(1, 1) != api.OK {
		t.Error("the clone's bounds")
	}
	empty, _ := begin(t, 0, 1)
	same(t, empty.Clone(), newPlain(0, 1))
}

// P7.2, rule 4: what All answers is new memory, its spare room too.
func TestAllIsNewMemory(t *testing.T) {
	r, p := begin(t, 6, 2, 5, 1, 3)
	for list := range 2 {
		one, two := r.All(list), r.All(list)
		spoil(one)
		same(t, r, p)
		if !slices.Equal(two, p.lists[list]) {
			t.Errorf("All(%d) shares memory with another answer: %v", list, two)
		}
	}
	one := r.All(0)
	r.Pop(0)
	if !slices.Equal(one, []int{5, 1, 3}) {
		t.Errorf("a change is seen in an earlier answer: %v", one)
	}
}

// spoil: a list's elements, up to its capacity, become something else.
func spoil(list []int) {
	list = list[:cap(list)]
	for k := range list {
		list[k] = -77
	}
}

// P1, P7.1, P7.2: any numbers of 64 bits, at every call.
func TestAnyNumbers(t *testing.T) {
	r, p := begin(t, 5, 3, 4, 1)
	numbers := hostileInts(5, 3)
	for _, list := range numbers {
		for _, item := range numbers {
			for kind := range 6 {
				change(t, r, p, kind, list, item)
			}
			// What has changed is put back, so that lists don't run empty.
			r.Push(0, 4)
			p.put(0, 4, false)
		}
		if !p.hasList(list) {
			sameList(t, r, list, nil)
		}
		if !p.hasItem(list) && (r.In(list) != -1 || r.Next(list) != -1) {
			t.Errorf("In(%d), Next(%d): %d, %d", list, list, r.In(list), r.Next(list))
		}
		same(t, r, p)
	}
}

// P7.1, rule 3: beside an error nothing changes.
func TestErrorsChangeNothing(t *testing.T) {
	r, p := begin(t, 4, 2, 2, 0)
	for _, c := range [][2]int{{-1, 1}, {2, 1}, {0, -1}, {0, 4}, {1, 4}, {1, 5}, {math.MaxInt, math.MaxInt}, {math.MinInt, math.MinInt}} {
		if errno := r.Push(c[0], c[1]); errno != api.ErrRange {
			t.Errorf("Push(%d, %d): %v", c[0], c[1], errno)
		}
		if errno := r.Append(c[0], c[1]); errno != api.ErrRange {
			t.Errorf("Append(%d, %d): %v", c[0], c[1], errno)
		}
		same(t, r, p)
	}
	for _, item := range []int{-1, 4, 5, 6, math.MaxInt, math.MinInt} {
		if errno := r.Remove(item); errno != api.ErrRange {
			t.Errorf("Remove(%d): %v", item, errno)
		}
		same(t, r, p)
	}
}
