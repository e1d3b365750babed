package spans

import (
	"math"
	"slices"
	"testing"

	"underpin/api"
)

const most = 4096

// plain: what pages are by the chapter, told page by page: of each, the first page of its span, or -1.
type plain struct {
	first []int
}

func newPlain(pages int) *plain { return &plain{slices.Repeat([]int{-1}, pages)} }

// runs goes from page to page; a run ends where the next page is of another span, or of none.
func (p *plain) runs() []Run {
	var runs []Run
	for page, first := range p.first {
		if page == 0 || first != p.first[page-1] {
			runs = append(runs, Run{Page: page, Taken: first >= 0})
		}
		runs[len(runs)-1].N++
	}
	return runs
}

// begin: where in a run so many pages may be taken, by trying each of its pages; -1, if nowhere.
func begin(run Run, n, align int) int {
	for page := run.Page; page < run.Page+run.N; page++ {
		if page%align == 0 && run.Page+run.N-page >= n {
			return page
		}
	}
	return -1
}

// place: where TakeAligned takes, and its error.
func (p *plain) place(n, align int) (int, api.Errno) {
	powers := []int{1, 2, 4, 8, 16, 32, 64, 128, 256, 512, 1024, 2048, 4096}
	if n < 1 || !slices.Contains(powers, align) {
		return -1, api.ErrRange
	}
	page, length := -1, most+1
	for _, run := range p.runs() {
		if at := begin(run, n, align); !run.Taken && at >= 0 && run.N < length {
			page, length = at, run.N
		}
	}
	if page < 0 {
		return -1, api.ErrMemory
	}
	return page, api.OK
}

func (p *plain) take(n, align int) (int, api.Errno) {
	page, errno := p.place(n, align)
	if errno == api.OK {
		for k := page; k < page+n; k++ {
			p.first[k] = page
		}
	}
	return page, errno
}

func (p *plain) give(page int) (int, api.Errno) {
	if page < 0 || page >= len(p.first) || p.first[page] != page {
		return 0, api.ErrPointer
	}
	n := 0
	for k := range p.first {
		if p.first[k] == page {
			p.first[k] = -1
			n++
		}
	}
	return n, api.OK
}

func (p *plain) find(page int) (Run, bool) {
	for _, run := range p.runs() {
		if run.Page <= page && page < run.Page+run.N {
			return run, true
		}
	}
	return Run{}, false
}

// hostileInts: numbers at which a page, a count, an alignment or a bound may go wrong among so many pages.
func hostileInts(pages int) []int {
	list := []int{math.MinInt, math.MinInt + 1, math.MaxInt - 1, math.MaxInt, 1<<32 + 1, -1 << 32, 3, 5, 6, 7, 12, 24, 1000, 0x5555555555555555}
	for k := range 63 {
		list = append(list, 1<<k, -1<<k, 1<<k-1)
	}
	for d := -2; d <= 2; d++ {
		list = append(list, d, pages+d, most+d, 2*most+d, math.MaxInt-pages+d-2, math.MaxInt-most+d, math.MinInt+pages+d+2, 1<<32+d, 1<<40+d)
	}
	return list
}

func made(t *testing.T, pages int) *Spans {
	t.Helper()
	s, errno := New(pages)
	if s == nil || errno != api.OK {
		t.Fatalf("New(%d): %v", pages, errno)
	}
	return s
}

// laid: pages with these spans and free runs, side by side, in this order.
func laid(t *testing.T, runs ...Run) (*Spans, *plain) {
	t.Helper()
	pages := 0
	for _, run := range runs {
		pages += run.N
	}
	s, p := made(t, pages), newPlain(pages)
	// As long as nothing is given back, each span begins where the last one ends.
	for _, run := range runs {
		take(t, s, p, run.N, 1)
	}
	page := 0
	for _, run := range runs {
		if !run.Taken {
			give(t, s, p, page)
		}
		page += run.N
	}
	same(t, s, p)
	return s, p
}

func taken(n int) Run { return Run{N: n, Taken: true} }

func free(n int) Run { return Run{N: n} }

// same: every call that tells something tells what the plain pages hold.
func same(t *testing.T, s *Spans, p *plain) {
	t.Helper()
	runs, count, longest := p.runs(), 0, 0
	for _, run := range runs {
		if !run.Taken {
			count += run.N
			longest = max(longest, run.N)
		}
	}
	if got := s.Runs(); !slices.Equal(got, runs) {
		t.Fatalf("Runs: %v, not %v", got, runs)
	}
	if got := s.Free(); got != count {
		t.Fatalf("Free: %d, not %d; %v", got, count, runs)
	}
	if got := s.Largest(); got != longest {
		t.Fatalf("Largest: %d, not %d; %v", got, longest, runs)
	}
	for _, run := range runs {
		for _, page := range []int{run.Page, run.Page + run.N/2, run.Page + run.N - 1} {
			if got, ok := s.Find(page); got != run || !ok {
				t.Fatalf("Find(%d): %v, %v; %v", page, got, ok, runs)
			}
		}
	}
	for _, page := range []int{-1, len(p.first)} {
		if got, ok := s.Find(page); got != (Run{}) || ok {
			t.Fatalf("Find(%d): %v, %v; %v", page, got, ok, runs)
		}
	}
}

// take: Can, and then TakeAligned, are as the plain pages tell; the page that was taken.
func take(t *testing.T, s *Spans, p *plain, n, align int) int {
	t.Helper()
	before := p.runs()
	want, wantE := p.take(n, align)
	if can := s.Can(n, align); can != (wantE == api.OK) {
		t.Fatalf("Can(%d, %d): %v; %v", n, align, can, before)
	}
	if now := s.Runs(); !slices.Equal(now, before) {
		t.Fatalf("Can(%d, %d) has changed %v to %v", n, align, before, now)
	}
	page, errno := s.TakeAligned(n, align)
	if page != want || errno != wantE {
		t.Fatalf("TakeAligned(%d, %d): %d, %v, not %d, %v; %v", n, align, page, errno, want, wantE, before)
	}
	return page
}

// give: Give is as the plain pages tell.
func give(t *testing.T, s *Spans, p *plain, page int) {
	t.Helper()
	before := p.runs()
	want, wantE := p.give(page)
	if n, errno := s.Give(page); n != want || errno != wantE {
		t.Fatalf("Give(%d): %d, %v, not %d, %v; %v", page, n, errno, want, wantE, before)
	}
}

// wantRuns: the runs are these, whatever the plain pages tell.
func wantRuns(t *testing.T, s *Spans, runs ...Run) {
	t.Helper()
	page := 0
	for k := range runs {
		runs[k].Page = page
		page += runs[k].N
	}
	if got := s.Runs(); !slices.Equal(got, runs) {
		t.Fatalf("Runs: %v, not %v", got, runs)
	}
}

// wantTaken holds what Take or TakeAligned answered against a page that is written out.
func wantTaken(t *testing.T, page int, errno api.Errno, want int, wantE api.Errno) {
	t.Helper()
	if page != want || errno != wantE {
		t.Fatalf("taken: %d, %v, not %d, %v", page, errno, want, wantE)
	}
}

// P8.1: New's bounds; no page is taken at first.
func TestNew(t *testing.T) {
	for _, pages := range []int{0, 1, 2, 3, 16, 4095, 4096} {
		s := made(t, pages)
		same(t, s, newPlain(pages))
		if s.Free() != pages || s.Largest() != pages {
			t.Errorf("New(%d): Free %d, Largest %d", pages, s.Free(), s.Largest())
		}
	}
	wantRuns(t, made(t, 0))
	wantRuns(t, made(t, 1), free(1))
	wantRuns(t, made(t, 4096), free(4096))
}

// P8.1, P1: New of numbers out of bounds, and of any numbers.
func TestNewOutOfBounds(t *testing.T) {
	for _, pages := range append(hostileInts(most), -1, 4097, -4096) {
		s, errno := New(pages)
		fits := 0 <= pages && pages <= 4096
		if fits && (s == nil || errno != api.OK) || !fits && (s != nil || errno != api.ErrRange) {
			t.Errorf("New(%d): %v, %v", pages, s, errno)
		}
	}
}

// P8.1: each New has pages of its own.
func TestNewApart(t *testing.T) {
	a, b := made(t, 8), made(t, 8)
	a.Take(3)
	wantRuns(t, a, taken(3), free(5))
	wantRuns(t, b, free(8))
}

// P8.1: the chapter's example.
func TestExample(t *testing.T) {
	s := made(t, 16)
	page, errno := s.Take(3)
	wantTaken(t, page, errno, 0, api.OK)
	page, errno = s.Take(5)
	wantTaken(t, page, errno, 3, api.OK)
	if n, errno := s.Give(0); n != 3 || errno != api.OK {
		t.Fatalf("Give(0): %d, %v", n, errno)
	}
	page, errno = s.Take(2)
	wantTaken(t, page, errno, 0, api.OK)
	page, errno = s.TakeAligned(2, 4)
	wantTaken(t, page, errno, 8, api.OK)
	wantRuns(t, s, taken(2), free(1), taken(5), taken(2), free(6))
}

// P8.1, P8.2: Take of 1, of a whole free run, of one page more, of all pages, and of 0.
func TestTakeAtEdges(t *testing.T) {
	for _, x := range []struct {
		runs  []Run
		n     int
		page  int
		errno api.Errno
		left  []Run
	}{
		{[]Run{free(8)}, 1, 0, api.OK, []Run{taken(1), free(7)}},
		{[]Run{free(8)}, 7, 0, api.OK, []Run{taken(7), free(1)}},
		{[]Run{free(8)}, 8, 0, api.OK, []Run{taken(8)}},
		{[]Run{free(8)}, 9, -1, api.ErrMemory, []Run{free(8)}},
		{[]Run{free(8)}, 0, -1, api.ErrRange, []Run{free(8)}},
		{[]Run{free(8)}, -1, -1, api.ErrRange, []Run{free(8)}},
		{[]Run{free(1)}, 1, 0, api.OK, []Run{taken(1)}},
		{[]Run{free(1)}, 2, -1, api.ErrMemory, []Run{free(1)}},
		{nil, 1, -1, api.ErrMemory, nil},
		{nil, 0, -1, api.ErrRange, nil},
		{[]Run{free(4096)}, 4096, 0, api.OK, []Run{taken(4096)}},
		{[]Run{free(4096)}, 4097, -1, api.ErrMemory, []Run{free(4096)}},
		{[]Run{taken(2), free(3), taken(1)}, 1, 2, api.OK, []Run{taken(2), taken(1), free(2), taken(1)}},
		{[]Run{taken(2), free(3), taken(1)}, 3, 2, api.OK, []Run{taken(2), taken(3), taken(1)}},
		{[]Run{taken(2), free(3), taken(1)}, 4, -1, api.ErrMemory, []Run{taken(2), free(3), taken(1)}},
		{[]Run{taken(2), taken(6)}, 1, -1, api.ErrMemory, []Run{taken(2), taken(6)}},
		{[]Run{free(3), taken(1), free(3)}, 6, -1, api.ErrMemory, []Run{free(3), taken(1), free(3)}},
		{[]Run{free(3), taken(1), free(3)}, 4, -1, api.ErrMemory, []Run{free(3), taken(1), free(3)}},
	} {
		s, p := laid(t, x.runs...)
		p.take(x.n, 1)
		page, errno := s.Take(x.n)
		wantTaken(t, page, errno, x.page, x.errno)
		wantRuns(t, s, x.left...)
		same(t, s, p)
	}
}

// P8.1: of several free runs that hold so many pages the shortest, of several of these the first.
func TestShortest(t *testing.T) {
	for _, x := range []struct {
		runs           []Run
		n, align, page int
	}{
		{[]Run{free(5), taken(1), free(3), taken(1), free(4)}, 2, 1, 6},
		{[]Run{free(3), taken(1), free(5), taken(1), free(4)}, 2, 1, 0},
		{[]Run{free(5), taken(1), free(4), taken(1), free(3)}, 2, 1, 11},
		{[]Run{free(5), taken(1), free(3), taken(1), free(4)}, 4, 1, 10},
		{[]Run{free(5), taken(1), free(3), taken(1), free(4)}, 5, 1, 0},
		{[]Run{free(1), taken(1), free(3), taken(1), free(3)}, 1, 1, 0},
		{[]Run{free(1), taken(1), free(3), taken(1), free(3)}, 2, 1, 2},
		{[]Run{free(3), taken(1), free(3), taken(1), free(3)}, 3, 1, 0},
		{[]Run{taken(1), free(3), taken(1), free(3), taken(1), free(3)}, 2, 1, 1},
		{[]Run{free(9), taken(1), free(2), taken(2), free(2)}, 2, 1, 10},
		// The shortest holds them, but not from a multiple on.
		{[]Run{taken(1), free(3), taken(1), free(5), taken(2), free(4)}, 3, 4, 12},
		{[]Run{taken(1), free(3), taken(1), free(8)}, 3, 4, 8},
		{[]Run{taken(1), free(2), taken(1), free(2)}, 2, 2, 4},
		{[]Run{taken(2), free(2), taken(2), free(2)}, 2, 2, 2},
		{[]Run{taken(1), free(4), taken(1), free(4)}, 2, 4, 8},
	} {
		s, p := laid(t, x.runs...)
		p.take(x.n, x.align)
		page, errno := s.TakeAligned(x.n, x.align)
		wantTaken(t, page, errno, x.page, api.OK)
		same(t, s, p)
	}
}

// P8.1, P8.2: TakeAligned leaves pages before and behind its span; the page is the run's least multiple.
func TestTakeAlignedAtEdges(t *testing.T) {
	for _, x := range []struct {
		runs     []Run
		n, align int
		page     int
		errno    api.Errno
		left     []Run
	}{
		{[]Run{taken(1), free(7)}, 2, 1, 1, api.OK, []Run{taken(1), taken(2), free(5)}},
		{[]Run{taken(1), free(7)}, 2, 2, 2, api.OK, []Run{taken(1), free(1), taken(2), free(4)}},
		{[]Run{taken(1), free(7)}, 6, 2, 2, api.OK, []Run{taken(1), free(1), taken(6)}},
		{[]Run{taken(1), free(7)}, 7, 2, -1, api.ErrMemory, []Run{taken(1), free(7)}},
		{[]Run{taken(1), free(7)}, 4, 4, 4, api.OK, []Run{taken(1), free(3), taken(4)}},
		{[]Run{taken(1), free(7)}, 5, 4, -1, api.ErrMemory, []Run{taken(1), free(7)}},
		{[]Run{taken(1), free(7)}, 1, 8, -1, api.ErrMemory, []Run{taken(1), free(7)}},
		{[]Run{taken(1), free(8)}, 1, 8, 8, api.OK, []Run{taken(1), free(7), taken(1)}},
		{[]Run{taken(4), free(4)}, 4, 4, 4, api.OK, []Run{taken(4), taken(4)}},
		{[]Run{taken(4), free(4)}, 1, 4096, -1, api.ErrMemory, []Run{taken(4), free(4)}},
		{[]Run{free(8)}, 3, 4096, 0, api.OK, []Run{taken(3), free(5)}},
		{[]Run{free(4096)}, 4096, 4096, 0, api.OK, []Run{taken(4096)}},
		{[]Run{free(4096)}, 4097, 4096, -1, api.ErrMemory, []Run{free(4096)}},
		{[]Run{taken(1), free(4095)}, 1, 4096, -1, api.ErrMemory, []Run{taken(1), free(4095)}},
		{[]Run{taken(1), free(4095)}, 2048, 2048, 2048, api.OK, []Run{taken(1), free(2047), taken(2048)}},
		{[]Run{taken(1), free(4095)}, 2049, 2048, -1, api.ErrMemory, []Run{taken(1), free(4095)}},
		{[]Run{taken(2049), free(2047)}, 1, 2048, -1, api.ErrMemory, []Run{taken(2049), free(2047)}},
		{[]Run{taken(5), free(3), taken(4)}, 1, 4, -1, api.ErrMemory, []Run{taken(5), free(3), taken(4)}},
	} {
		s, p := laid(t, x.runs...)
		p.take(x.n, x.align)
		if can := s.Can(x.n, x.align); can != (x.errno == api.OK) {
			t.Fatalf("Can(%d, %d): %v; %v", x.n, x.align, can, x.runs)
		}
		page, errno := s.TakeAligned(x.n, x.align)
		wantTaken(t, page, errno, x.page, x.errno)
		wantRuns(t, s, x.left...)
		same(t, s, p)
	}
}

// P8.1: wrong alignments and counts are ErrRange, though there are pages or none, and ahead of ErrMemory.
func TestTakeAlignedOfWrongInputs(t *testing.T) {
	for _, runs := range [][]Run{nil, {free(16)}, {taken(3), free(13)}, {taken(16)}} {
		s, p := laid(t, runs...)
		for _, x := range [][2]int{
			{0, 1}, {-1, 1}, {-16, 4}, {math.MinInt, 1}, {0, 0}, {-1, -1},
			{1, 0}, {1, -1}, {1, -2}, {1, 3}, {1, 5}, {1, 6}, {1, 12}, {1, 4095}, {1, 4097}, {1, 6144}, {1, 8191}, {1, 8192}, {1, 1 << 20}, {1, 1 << 40}, {1, 1 << 62},
			{1, math.MaxInt}, {1, math.MinInt}, {1, 1<<32 + 1}, {4097, 3}, {math.MaxInt, 8192}, {math.MaxInt, 0}, {math.MinInt, math.MinInt},
		} {
			page, errno := s.TakeAligned(x[0], x[1])
			if page != -1 || errno != api.ErrRange || s.Can(x[0], x[1]) {
				t.Errorf("TakeAligned(%d, %d): %d, %v, Can %v", x[0], x[1], page, errno, s.Can(x[0], x[1]))
			}
		}
		same(t, s, p)
	}
}

// P8.1: every alignment from 1 to 4,096, of pages of which all but the first are free.
func TestEveryAlignment(t *testing.T) {
	for align := 1; align <= 2048; align *= 2 {
		s, p := laid(t, taken(1), free(4095))
		p.take(2, align)
		page, errno := s.TakeAligned(2, align)
		wantTaken(t, page, errno, align, api.OK)
		same(t, s, p)
	}
	s, p := laid(t, taken(1), free(4095))
	page, errno := s.TakeAligned(2, 4096)
	wantTaken(t, page, errno, -1, api.ErrMemory)
	same(t, s, p)
}

// P8.1, P8.2: Give of a span between spans, and beside free runs on either side and on both: they are one free run.
func TestGiveBesideFreeRuns(t *testing.T) {
	for _, x := range []struct {
		runs    []Run
		page, n int
		left    []Run
	}{
		{[]Run{taken(5)}, 0, 5, []Run{free(5)}},
		{[]Run{taken(2), taken(3), taken(4)}, 2, 3, []Run{taken(2), free(3), taken(4)}},
		{[]Run{taken(2), taken(3), taken(4)}, 0, 2, []Run{free(2), taken(3), taken(4)}},
		{[]Run{taken(2), taken(3), taken(4)}, 5, 4, []Run{taken(2), taken(3), free(4)}},
		{[]Run{free(2), taken(3), taken(4)}, 2, 3, []Run{free(5), taken(4)}},
		{[]Run{taken(2), taken(3), free(4)}, 2, 3, []Run{taken(2), free(7)}},
		{[]Run{free(2), taken(3), free(4)}, 2, 3, []Run{free(9)}},
		{[]Run{taken(1), free(2), taken(3), free(4), taken(1)}, 3, 3, []Run{taken(1), free(9), taken(1)}},
		{[]Run{taken(1), free(2), taken(3), taken(4), free(1)}, 3, 3, []Run{taken(1), free(5), taken(4), free(1)}},
		{[]Run{free(1), taken(2), taken(3), free(4), taken(1)}, 3, 3, []Run{free(1), taken(2), free(7), taken(1)}},
		{[]Run{free(1), taken(1), free(1), taken(1), free(1)}, 1, 1, []Run{free(3), taken(1), free(1)}},
		{[]Run{free(1), taken(1), free(1), taken(1), free(1)}, 3, 1, []Run{free(1), taken(1), free(3)}},
		{[]Run{taken(4095), taken(1)}, 4095, 1, []Run{taken(4095), free(1)}},
		{[]Run{taken(4096)}, 0, 4096, []Run{free(4096)}},
	} {
		s, p := laid(t, x.runs...)
		p.give(x.page)
		if n, errno := s.Give(x.page); n != x.n || errno != api.OK {
			t.Fatalf("Give(%d): %d, %v; %v", x.page, n, errno, x.runs)
		}
		wantRuns(t, s, x.left...)
		same(t, s, p)
		// Given back once, it is no span any more.
		if n, errno := s.Give(x.page); n != 0 || errno != api.ErrPointer {
			t.Fatalf("Give(%d) again: %d, %v; %v", x.page, n, errno, x.runs)
		}
		same(t, s, p)
	}
}

// P8.1: pages that came together may be taken at once.
func TestTakeOfJoinedRuns(t *testing.T) {
	s, p := laid(t, taken(3), taken(2), taken(3))
	for _, page := range []int{0, 5, 3} {
		if _, errno := s.Take(8); errno != api.ErrMemory {
			t.Fatalf("Take(8): %v", errno)
		}
		give(t, s, p, page)
	}
	page, errno := s.Take(8)
	wantTaken(t, page, errno, 0, api.OK)
	wantRuns(t, s, taken(8))
}

// P8.1: Give of a page at which no span begins, and that nothing changes then.
func TestGiveOfWrongPages(t *testing.T) {
	for _, runs := range [][]Run{nil, {free(16)}, {taken(16)}, {taken(3), free(2), taken(4), taken(5), free(2)}, {free(1), taken(3), free(12)}} {
		s, p := laid(t, runs...)
		for _, page := range append(hostileInts(16), 1, 2, 3, 4, 6, 8, 10, 13, 14, 15) {
			if page >= 0 && page < len(p.first) && p.first[page] == page {
				continue
			}
			if n, errno := s.Give(page); n != 0 || errno != api.ErrPointer {
				t.Errorf("Give(%d): %d, %v; %v", page, n, errno, p.runs())
			}
			same(t, s, p)
		}
	}
}

// P8.2: Find at the first, a middle and the last page of spans and free runs, and of no page.
func TestFind(t *testing.T) {
	s, p := laid(t, taken(3), free(4), taken(1), taken(5), free(1), taken(2))
	for page, want := range []Run{
		{0, 3, true}, {0, 3, true}, {0, 3, true},
		{3, 4, false}, {3, 4, false}, {3, 4, false}, {3, 4, false},
		{7, 1, true},
		{8, 5, true}, {8, 5, true}, {8, 5, true}, {8, 5, true}, {8, 5, true},
		{13, 1, false},
		{14, 2, true}, {14, 2, true},
	} {
		if got, ok := s.Find(page); got != want || !ok {
			t.Errorf("Find(%d): %v, %v, not %v", page, got, ok, want)
		}
	}
	for _, page := range append(hostileInts(16), -1, 16, 17, 4095, 4096) {
		want, wantOk := p.find(page)
		if got, ok := s.Find(page); got != want || ok != wantOk {
			t.Errorf("Find(%d): %v, %v, not %v", page, got, ok, want)
		}
	}
	same(t, s, p)
	none := made(t, 0)
	for _, page := range hostileInts(0) {
		if got, ok := none.Find(page); got != (Run{}) || ok {
			t.Errorf("Find(%d) of no pages: %v, %v", page, got, ok)
		}
	}
}

// P8.2: Free, Largest, Runs and Can with no page, with all taken, by one span and by many, with none, and with runs of each kind.
func TestTold(t *testing.T) {
	for _, x := range []struct {
		runs          []Run
		free, longest int
	}{
		{nil, 0, 0},
		{[]Run{taken(16)}, 0, 0},
		{[]Run{taken(1), taken(14), taken(1)}, 0, 0},
		{[]Run{free(16)}, 16, 16},
		{[]Run{free(1), taken(1), free(3), taken(2), free(2)}, 6, 3},
		{[]Run{free(4), taken(1), free(3)}, 7, 4},
		{[]Run{free(2), taken(1), free(5)}, 7, 5},
	} {
		s, p := laid(t, x.runs...)
		if s.Free() != x.free || s.Largest() != x.longest {
			t.Errorf("%v: Free %d, Largest %d", x.runs, s.Free(), s.Largest())
		}
		for n := range 19 {
			if can := s.Can(n, 1); can != (n >= 1 && n <= x.longest) {
				t.Errorf("%v: Can(%d, 1): %v", x.runs, n, can)
			}
		}
		wantRuns(t, s, x.runs...)
		same(t, s, p)
	}
}

// P8.2: what Runs answers is new memory, its spare room too; later changes aren't seen in it.
func TestRunsAreNewMemory(t *testing.T) {
	s, p := laid(t, taken(3), free(4), taken(1), free(8))
	first, second := s.Runs(), s.Runs()
	kept := slices.Clone(first)
	for _, k := range []int{0, len(first) - 1} {
		first[k] = Run{99, 99, true}
	}
	room := first[:cap(first)]
	for k := range room {
		room[k] = Run{77, 77, true}
	}
	same(t, s, p)
	if !slices.Equal(second, kept) {
		t.Errorf("two answers share memory: %v", second)
	}
	take(t, s, p, 2, 1)
	give(t, s, p, 0)
	take(t, s, p, 5, 1)
	same(t, s, p)
	if !slices.Equal(second, kept) {
		t.Errorf("a later call has changed an answer: %v", second)
	}
	if !slices.Equal(room, slices.Repeat([]Run{{77, 77, true}}, len(room))) {
		t.Errorf("a later call has changed an answer's room: %v", room)
	}
}

// P8.2: that Find's answer is changed changes nothing.
func TestFoundIsNewMemory(t *testing.T) {
	s, p := laid(t, taken(3), free(4))
	run, _ := s.Find(1)
	run.N, run.Taken = 0, false
	same(t, s, p)
}

// layouts: all ways in which so many pages may be spans and free runs.
func layouts(pages int) [][]Run {
	if pages == 0 {
		return [][]Run{nil}
	}
	var list [][]Run
	for n := 1; n <= pages; n++ {
		for _, rest := range layouts(pages - n) {
			list = append(list, append([]Run{taken(n)}, rest...))
			if len(rest) == 0 || rest[0].Taken {
				list = append(list, append([]Run{free(n)}, rest...))
			}
		}
	}
	return list
}

// P8.1, P8.2: every layout of up to seven pages, and every call that might change it.
func TestEveryLayout(t *testing.T) {
	for pages := range 8 {
		for _, runs := range layouts(pages) {
			for n := -1; n <= pages+1; n++ {
				for align := -1; align <= 9; align++ {
					s, p := laid(t, slices.Clone(runs)...)
					take(t, s, p, n, align)
					same(t, s, p)
				}
			}
			for page := -1; page <= pages; page++ {
				s, p := laid(t, slices.Clone(runs)...)
				give(t, s, p, page)
				same(t, s, p)
			}
		}
	}
}

// picks: a row of numbers that is always the same and looks like none.
type picks uint64

func (k *picks) below(n int) int {
	*k = *k*6364136223846793005 + 1442695040888963407
	return int(uint64(*k)>>33) % n
}

// P8.1, P8.2: many calls one after another, in few pages and in many.
func TestManyChanges(t *testing.T) {
	for _, x := range []struct{ pages, longest, calls int }{{1, 2, 200}, {7, 4, 3000}, {16, 6, 6000}, {64, 9, 6000}, {300, 40, 2000}, {4096, 200, 300}} {
		s, p := made(t, x.pages), newPlain(x.pages)
		k := picks(x.pages)
		for range x.calls {
			switch k.below(5) {
			case 0, 1:
				take(t, s, p, k.below(x.longest+1), 1<<k.below(5))
			case 2:
				take(t, s, p, 1+k.below(x.longest), 1)
			case 3:
				give(t, s, p, k.below(x.pages+2)-1)
			default:
				runs := p.runs()
				give(t, s, p, runs[k.below(len(runs))].Page)
			}
			same(t, s, p)
		}
	}
}

// P8.1, P8.2: 4,096 pages, each of them a span; every other one given back, and then all.
func TestAllPagesApart(t *testing.T) {
	s := made(t, most)
	for page := range most {
		got, errno := s.Take(1)
		wantTaken(t, got, errno, page, api.OK)
	}
	if len(s.Runs()) != most || s.Free() != 0 || s.Largest() != 0 || s.Can(1, 1) {
		t.Fatalf("%d runs, Free %d, Largest %d", len(s.Runs()), s.Free(), s.Largest())
	}
	for half := range 2 {
		for page := half; page < most; page += 2 {
			if n, errno := s.Give(page); n != 1 || errno != api.OK {
				t.Fatalf("Give(%d): %d, %v", page, n, errno)
			}
		}
		if half == 0 && (len(s.Runs()) != most || s.Free() != most/2 || s.Largest() != 1 || s.Can(2, 1) || !s.Can(1, 4096)) {
			t.Fatalf("%d runs, Free %d, Largest %d", len(s.Runs()), s.Free(), s.Largest())
		}
	}
	wantRuns(t, s, free(most))
}

// P8.1, P8.2, P1: every call at any numbers.
func TestAnyNumbers(t *testing.T) {
	for _, runs := range [][]Run{nil, {free(1)}, {taken(3), free(2), taken(4), free(7)}, {taken(1), free(4095)}} {
		s, p := laid(t, slices.Clone(runs)...)
		numbers := hostileInts(len(p.first))
		for _, n := range numbers {
			for _, align := range []int{math.MinInt, -4096, -1, 0, 1, 2, 3, 4, 1024, 4096, 4097, 8192, 1 << 40, 1 << 62, math.MaxInt} {
				if page := take(t, s, p, n, align); page >= 0 {
					give(t, s, p, page)
				}
			}
			page, errno := s.Take(n)
			want, wantE := p.take(n, 1)
			wantTaken(t, page, errno, want, wantE)
			give(t, s, p, page)
			give(t, s, p, n)
			same(t, s, p)
		}
		for _, align := range numbers {
			if page := take(t, s, p, 1, align); page >= 0 {
				give(t, s, p, page)
			}
		}
		same(t, s, p)
	}
}
