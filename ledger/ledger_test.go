package ledger

import (
	"math"
	"slices"
	"testing"

	"underpin/api"
)

const most = 1 << 40

// plain: what a ledger is by the chapter: its capacity and all its states so far, of which the last one is the present one.
type plain struct {
	capacity int
	states   []Row
}

func newPlain(capacity int) *plain { return &plain{capacity, []Row{{}}} }

func (p *plain) clone() *plain { return &plain{p.capacity, slices.Clone(p.states)} }

func (p *plain) now() Row { return p.states[len(p.states)-1] }

func (p *plain) peak() int {
	peak := 0
	for _, row := range p.states {
		peak = max(peak, sum(row))
	}
	return peak
}

func (p *plain) seen(row Row) int {
	count := 0
	for _, state := range p.states {
		if state == row {
			count++
		}
	}
	return count
}

func sum(row Row) int {
	return row[0] + row[1] + row[2] + row[3] + row[4] + row[5] + row[6] + row[7]
}

// call is one that may change a ledger.
type call struct {
	what, from, to, n int
}

const (
	ofReserve = iota
	ofRelease
	ofShift
)

func reserve(kind, n int) call { return call{ofReserve, kind, kind, n} }

func release(kind, n int) call { return call{ofRelease, kind, kind, n} }

func shift(from, to, n int) call { return call{ofShift, from, to, n} }

// on: what a ledger answers to the call.
func (c call) on(l *Ledger) api.Errno {
	switch c.what {
	case ofReserve:
		return l.Reserve(c.from, c.n)
	case ofRelease:
		return l.Release(c.from, c.n)
	default:
		return l.Shift(c.from, c.to, c.n)
	}
}

// told: what the chapter asks of the call.
func (c call) told(p *plain) api.Errno {
	row := p.now()
	if c.from < 0 || c.from > 7 || c.to < 0 || c.to > 7 || c.n < 0 {
		return api.ErrRange
	}
	if c.what == ofReserve && uint64(sum(row))+uint64(c.n) > uint64(p.capacity) {
		return api.ErrFull
	}
	if c.what != ofReserve && row[c.from] < c.n {
		return api.ErrNone
	}
	if c.what != ofReserve {
		row[c.from] -= c.n
	}
	if c.what != ofRelease {
		row[c.to] += c.n
	}
	p.states = append(p.states, row)
	return api.OK
}

// text: the call's name, for a failure.
func (c call) text() string {
	return [...]string{"Reserve", "Release", "Shift"}[c.what]
}

// apply: a call answers as the chapter asks, on a ledger and on its states.
func apply(t *testing.T, l *Ledger, p *plain, calls ...call) {
	t.Helper()
	for _, c := range calls {
		before := p.now()
		want := c.told(p)
		if got := c.on(l); got != want {
			t.Fatalf("%s %d, %d, %d: %v, not %v; %v of %d", c.text(), c.from, c.to, c.n, got, want, before, p.capacity)
		}
	}
}

func made(t *testing.T, capacity int) *Ledger {
	t.Helper()
	l, errno := New(capacity)
	if l == nil || errno != api.OK {
		t.Fatalf("New(%d): %v", capacity, errno)
	}
	return l
}

// after: a ledger, and its states, behind these calls, none of which is an error.
func after(t *testing.T, capacity int, calls ...call) (*Ledger, *plain) {
	t.Helper()
	l, p := made(t, capacity), newPlain(capacity)
	for _, c := range calls {
		if errno := c.on(l); errno != api.OK {
			t.Fatalf("%s %d, %d, %d: %v", c.text(), c.from, c.to, c.n, errno)
		}
		c.told(p)
	}
	same(t, l, p)
	return l, p
}

// same: every call that tells something tells what the states hold.
func same(t *testing.T, l *Ledger, p *plain) {
	t.Helper()
	sameAmounts(t, l, p)
	for _, row := range p.states {
		sameSeen(t, l, p, row)
	}
	for kind := range 8 {
		row := p.now()
		row[kind]++
		sameSeen(t, l, p, row)
		row[kind] -= 2
		sameSeen(t, l, p, row)
	}
}

// sameAmounts: as same, but of Seen the present amounts alone.
func sameAmounts(t *testing.T, l *Ledger, p *plain) {
	t.Helper()
	row := p.now()
	if got := l.All(); got != row {
		t.Fatalf("All: %v, not %v", got, row)
	}
	for kind := range 8 {
		if got := l.Held(kind); got != row[kind] {
			t.Fatalf("Held(%d): %d; %v", kind, got, row)
		}
	}
	for _, kind := range []int{-1, 8} {
		if got := l.Held(kind); got != 0 {
			t.Fatalf("Held(%d): %d; %v", kind, got, row)
		}
	}
	if got := l.Total(); got != sum(row) {
		t.Fatalf("Total: %d; %v", got, row)
	}
	if got := l.Left(); got != p.capacity-sum(row) {
		t.Fatalf("Left: %d; %v of %d", got, row, p.capacity)
	}
	if got := l.Peak(); got != p.peak() {
		t.Fatalf("Peak: %d, not %d; %v", got, p.peak(), row)
	}
	sameSeen(t, l, p, row)
}

func sameSeen(t *testing.T, l *Ledger, p *plain, row Row) {
	t.Helper()
	if got, want := l.Seen(row), p.seen(row); got != want {
		t.Fatalf("Seen(%v): %d, not %d, of %d states", row, got, want, len(p.states))
	}
}

// step: a call with its error, and the amounts and the peak behind it, as they are written out.
type step struct {
	call  call
	errno api.Errno
	row   Row
	peak  int
}

// wantSteps: each step answers what is written out, and leaves what the states hold.
func wantSteps(t *testing.T, capacity int, steps ...step) {
	t.Helper()
	l, p := made(t, capacity), newPlain(capacity)
	for k, x := range steps {
		x.call.told(p)
		if got := x.call.on(l); got != x.errno {
			t.Fatalf("step %d: %v, not %v", k, got, x.errno)
		}
		if got := l.All(); got != x.row {
			t.Fatalf("step %d: All %v, not %v", k, got, x.row)
		}
		if got := l.Peak(); got != x.peak {
			t.Fatalf("step %d: Peak %d, not %d", k, got, x.peak)
		}
		same(t, l, p)
	}
}

// wantSeen: so many states had these amounts, whatever the states hold.
func wantSeen(t *testing.T, l *Ledger, row Row, want int) {
	t.Helper()
	if got := l.Seen(row); got != want {
		t.Fatalf("Seen(%v): %d, not %d", row, got, want)
	}
}

// hostileInts: numbers at which a kind, an amount or a bound may go wrong.
func hostileInts(amounts ...int) []int {
	list := []int{math.MinInt, math.MinInt + 1, math.MaxInt - 1, math.MaxInt, 0x5555555555555555}
	for k := range 63 {
		list = append(list, 1<<k, -1<<k, 1<<k-1)
	}
	for d := -2; d <= 2; d++ {
		list = append(list, d, 7+d, most+d, -most+d, 1<<32+d, 1<<32+7+d, math.MaxInt-most+d, math.MinInt+most+d)
		for _, amount := range amounts {
			list = append(list, amount+d, -amount+d, math.MaxInt-amount+d-2, math.MinInt+amount+d+2)
		}
	}
	return list
}

// ofEachKind: eight calls, by which some of each kind is reserved, 1 to 8, 36 in all.
func ofEachKind() []call {
	var calls []call
	for kind := range 8 {
		calls = append(calls, reserve(kind, kind+1))
	}
	return calls
}

// P9.1, P9.2: New's bounds; nothing is reserved at first, and that is the first state.
func TestNew(t *testing.T) {
	for _, capacity := range []int{0, 1, 2, 10, 4096, most - 1, most} {
		l := made(t, capacity)
		same(t, l, newPlain(capacity))
		if l.All() != (Row{}) || l.Total() != 0 || l.Left() != capacity || l.Peak() != 0 {
			t.Errorf("New(%d): %v, Total %d, Left %d, Peak %d", capacity, l.All(), l.Total(), l.Left(), l.Peak())
		}
		wantSeen(t, l, Row{}, 1)
		wantSeen(t, l, Row{1}, 0)
	}
}

// P9.1, P1: New of numbers out of bounds, and of any numbers.
func TestNewOutOfBounds(t *testing.T) {
	for _, capacity := range append(hostileInts(), -1, 1<<40+1, -1<<40, 1<<41) {
		l, errno := New(capacity)
		fits := 0 <= capacity && capacity <= 1<<40
		if fits && (l == nil || errno != api.OK) || !fits && (l != nil || errno != api.ErrRange) {
			t.Errorf("New(%d): %v, %v", capacity, l, errno)
		}
	}
}

// P9.1: each New has a book of its own.
func TestNewApart(t *testing.T) {
	a, b := made(t, 8), made(t, 8)
	a.Reserve(3, 5)
	same(t, b, newPlain(8))
	wantSeen(t, a, Row{3: 5}, 1)
}

// P9.1, P9.2: the chapter's example.
func TestExample(t *testing.T) {
	wantSteps(t, 10,
		step{reserve(1, 7), api.OK, Row{1: 7}, 7},
		step{shift(1, 2, 3), api.OK, Row{0, 4, 3}, 7},
		step{reserve(0, 4), api.ErrFull, Row{0, 4, 3}, 7},
	)
	l, _ := after(t, 10, reserve(1, 7), shift(1, 2, 3))
	if l.Left() != 3 {
		t.Errorf("Left: %d", l.Left())
	}
}

// P9.1: the bounds of the least and of the greatest capacity.
func TestCapacities(t *testing.T) {
	wantSteps(t, 0,
		step{reserve(0, 0), api.OK, Row{}, 0},
		step{reserve(0, 1), api.ErrFull, Row{}, 0},
		step{release(7, 0), api.OK, Row{}, 0},
		step{release(7, 1), api.ErrNone, Row{}, 0},
		step{shift(0, 7, 0), api.OK, Row{}, 0},
		step{shift(0, 7, 1), api.ErrNone, Row{}, 0},
	)
	wantSteps(t, 1,
		step{reserve(0, 2), api.ErrFull, Row{}, 0},
		step{reserve(0, 1), api.OK, Row{0: 1}, 1},
		step{reserve(1, 1), api.ErrFull, Row{0: 1}, 1},
		step{shift(0, 1, 1), api.OK, Row{1: 1}, 1},
		step{release(1, 1), api.OK, Row{}, 1},
	)
	wantSteps(t, most,
		step{reserve(0, most+1), api.ErrFull, Row{}, 0},
		step{reserve(0, most), api.OK, Row{0: most}, most},
		step{reserve(0, 1), api.ErrFull, Row{0: most}, most},
		step{reserve(7, most), api.ErrFull, Row{0: most}, most},
		step{reserve(7, math.MaxInt), api.ErrFull, Row{0: most}, most},
		step{shift(0, 7, most-1), api.OK, Row{0: 1, 7: most - 1}, most},
		step{shift(7, 0, most), api.ErrNone, Row{0: 1, 7: most - 1}, most},
		step{release(7, most-1), api.OK, Row{0: 1}, most},
		step{reserve(3, most-1), api.OK, Row{0: 1, 3: most - 1}, most},
		step{reserve(3, 1), api.ErrFull, Row{0: 1, 3: most - 1}, most},
	)
}

// P9.1, P9.2: Reserve of 0, of just what is left, and of one more, with nothing reserved, with some of each kind and with all.
func TestReserveAtEdges(t *testing.T) {
	for _, x := range []struct {
		capacity int
		calls    []call
	}{
		{0, nil}, {1, nil}, {50, nil}, {most, nil},
		{37, ofEachKind()}, {50, ofEachKind()}, {most, ofEachKind()},
		{36, ofEachKind()}, {50, []call{reserve(3, 50)}}, {most, []call{reserve(0, most)}},
	} {
		for kind := range 8 {
			l, p := after(t, x.capacity, x.calls...)
			row, left := l.All(), x.capacity-l.Total()
			if errno := l.Reserve(kind, left+1); errno != api.ErrFull {
				t.Fatalf("Reserve(%d, %d) of %d left: %v", kind, left+1, left, errno)
			}
			same(t, l, p)
			if errno := l.Reserve(kind, 0); errno != api.OK || l.All() != row {
				t.Fatalf("Reserve(%d, 0): %v, %v", kind, errno, l.All())
			}
			reserve(kind, 0).told(p)
			same(t, l, p)
			row[kind] += left
			if errno := l.Reserve(kind, left); errno != api.OK || l.All() != row || l.Left() != 0 {
				t.Fatalf("Reserve(%d, %d): %v, %v, Left %d", kind, left, errno, l.All(), l.Left())
			}
			reserve(kind, left).told(p)
			same(t, l, p)
			apply(t, l, p, reserve(kind, 1), reserve(7-kind, 1), reserve(kind, 0), reserve(7-kind, 0))
			same(t, l, p)
		}
	}
}

// P9.1, P9.2: Release of 0, of just what is held of the kind, and of one more.
func TestReleaseAtEdges(t *testing.T) {
	for _, calls := range [][]call{nil, ofEachKind(), {reserve(0, 50)}, {reserve(7, 50)}} {
		for kind := range 8 {
			l, p := after(t, 50, calls...)
			row := l.All()
			held := row[kind]
			if errno := l.Release(kind, held+1); errno != api.ErrNone {
				t.Fatalf("Release(%d, %d) of %d: %v", kind, held+1, held, errno)
			}
			same(t, l, p)
			if errno := l.Release(kind, 0); errno != api.OK || l.All() != row {
				t.Fatalf("Release(%d, 0): %v, %v", kind, errno, l.All())
			}
			release(kind, 0).told(p)
			same(t, l, p)
			row[kind] = 0
			if errno := l.Release(kind, held); errno != api.OK || l.All() != row {
				t.Fatalf("Release(%d, %d): %v, %v", kind, held, errno, l.All())
			}
			release(kind, held).told(p)
			same(t, l, p)
			// Nothing is held of it any more, though there may be some of others.
			apply(t, l, p, release(kind, 1), release(kind, 0))
			same(t, l, p)
		}
	}
}

// P9.1, P9.2: Shift of 0, of all of a kind, and of one more, to every kind and to itself.
func TestShiftAtEdges(t *testing.T) {
	for _, calls := range [][]call{nil, ofEachKind(), {reserve(0, 36)}, {reserve(7, 30)}} {
		for from := range 8 {
			for to := range 8 {
				// The capacity is just reached with some of each kind: a shift needs no room.
				l, p := after(t, 36, calls...)
				row, peak := l.All(), l.Peak()
				held := row[from]
				if errno := l.Shift(from, to, held+1); errno != api.ErrNone {
					t.Fatalf("Shift(%d, %d, %d) of %d: %v", from, to, held+1, held, errno)
				}
				same(t, l, p)
				if errno := l.Shift(from, to, 0); errno != api.OK || l.All() != row {
					t.Fatalf("Shift(%d, %d, 0): %v, %v", from, to, errno, l.All())
				}
				shift(from, to, 0).told(p)
				same(t, l, p)
				if from != to {
					row[to] += held
					row[from] = 0
				}
				if errno := l.Shift(from, to, held); errno != api.OK || l.All() != row {
					t.Fatalf("Shift(%d, %d, %d): %v, %v", from, to, held, errno, l.All())
				}
				shift(from, to, held).told(p)
				same(t, l, p)
				if l.Peak() != peak {
					t.Fatalf("Shift(%d, %d, %d): Peak %d, not %d", from, to, held, l.Peak(), peak)
				}
			}
		}
	}
}

// P9.1: the first and the last kind, and those one below and one above.
func TestKindsAtEdges(t *testing.T) {
	calls := ofEachKind()
	row := Row{1, 2, 3, 4, 5, 6, 7, 8}
	for _, x := range []struct {
		call  call
		errno api.Errno
		kind  int
		n     int
	}{
		{reserve(0, 3), api.OK, 0, 4},
		{reserve(7, 3), api.OK, 7, 11},
		{reserve(-1, 3), api.ErrRange, 0, 1},
		{reserve(8, 3), api.ErrRange, 7, 8},
		{release(0, 1), api.OK, 0, 0},
		{release(7, 1), api.OK, 7, 7},
		{release(-1, 1), api.ErrRange, 0, 1},
		{release(8, 1), api.ErrRange, 7, 8},
		{shift(0, 7, 1), api.OK, 7, 9},
		{shift(7, 0, 1), api.OK, 0, 2},
		{shift(-1, 0, 1), api.ErrRange, 0, 1},
		{shift(8, 0, 1), api.ErrRange, 0, 1},
		{shift(0, -1, 1), api.ErrRange, 0, 1},
		{shift(7, 8, 1), api.ErrRange, 7, 8},
		{shift(-1, -1, 0), api.ErrRange, 0, 1},
		{shift(8, 8, 0), api.ErrRange, 7, 8},
		{reserve(8, 0), api.ErrRange, 7, 8},
		{release(-1, 0), api.ErrRange, 0, 1},
		{shift(0, 8, 0), api.ErrRange, 0, 1},
	} {
		l, p := after(t, 50, calls...)
		x.call.told(p)
		if errno := x.call.on(l); errno != x.errno || l.Held(x.kind) != x.n {
			t.Errorf("%s %d, %d, %d: %v, Held(%d) %d", x.call.text(), x.call.from, x.call.to, x.call.n, errno, x.kind, l.Held(x.kind))
		}
		if x.errno != api.OK && l.All() != row {
			t.Errorf("%s %d, %d, %d has changed the amounts to %v", x.call.text(), x.call.from, x.call.to, x.call.n, l.All())
		}
		same(t, l, p)
	}
}

// P9.1: amounts below 0 are ErrRange, where nothing, something or all is reserved.
func TestAmountsBelowZero(t *testing.T) {
	for _, calls := range [][]call{nil, {reserve(0, 3)}, {reserve(0, 5), reserve(7, 5)}} {
		l, p := after(t, 10, calls...)
		for _, n := range []int{-1, -3, -10, -1 << 32, -1 << 40, math.MinInt, math.MinInt + 1} {
			for _, c := range []call{reserve(0, n), release(0, n), shift(0, 7, n), shift(7, 0, n), shift(0, 0, n)} {
				if errno := c.on(l); errno != api.ErrRange {
					t.Errorf("%s %d, %d, %d: %v", c.text(), c.from, c.to, n, errno)
				}
				same(t, l, p)
			}
		}
	}
}

// P9.1: of several errors the first one is told: ErrRange ahead of ErrFull and of ErrNone.
func TestErrorsInOrder(t *testing.T) {
	for _, calls := range [][]call{nil, {reserve(1, 4)}, {reserve(1, 4), reserve(7, 6)}} {
		l, p := after(t, 10, calls...)
		for _, c := range []call{
			reserve(8, 11), reserve(-1, 11), reserve(8, -1), reserve(-1, math.MaxInt), reserve(8, math.MinInt),
			release(8, 11), release(-1, 11), release(8, -1), release(-1, math.MaxInt), release(8, math.MinInt),
			shift(8, 1, 11), shift(-1, 1, 11), shift(1, 8, 11), shift(1, -1, 11), shift(8, 8, 11), shift(-1, 8, math.MaxInt),
			shift(1, 8, -1), shift(8, 1, -1), shift(8, -1, math.MinInt), shift(0, 8, 1), shift(1, 8, 5),
		} {
			if errno := c.on(l); errno != api.ErrRange {
				t.Errorf("%s %d, %d, %d: %v", c.text(), c.from, c.to, c.n, errno)
			}
			same(t, l, p)
		}
	}
}

// P9.2: Held of every kind and of none.
func TestHeld(t *testing.T) {
	l, p := after(t, 50, ofEachKind()...)
	for kind := range 8 {
		if l.Held(kind) != kind+1 {
			t.Errorf("Held(%d): %d", kind, l.Held(kind))
		}
	}
	for _, kind := range hostileInts() {
		if (kind < 0 || kind > 7) && l.Held(kind) != 0 {
			t.Errorf("Held(%d): %d", kind, l.Held(kind))
		}
	}
	same(t, l, p)
	if l.Total() != 36 || l.Left() != 14 || l.Peak() != 36 || l.All() != (Row{1, 2, 3, 4, 5, 6, 7, 8}) {
		t.Errorf("Total %d, Left %d, Peak %d, All %v", l.Total(), l.Left(), l.Peak(), l.All())
	}
}

// P9.2: Peak stays behind a Release, where a Reserve reaches it again and where one doesn't, and rises beyond it; errors and shifts leave it.
func TestPeak(t *testing.T) {
	wantSteps(t, 20,
		step{reserve(0, 4), api.OK, Row{4}, 4},
		step{reserve(1, 3), api.OK, Row{4, 3}, 7},
		step{release(0, 4), api.OK, Row{0, 3}, 7},
		step{reserve(2, 3), api.OK, Row{0, 3, 3}, 7},
		step{reserve(2, 1), api.OK, Row{0, 3, 4}, 7},
		step{shift(1, 7, 3), api.OK, Row{2: 4, 7: 3}, 7},
		step{reserve(5, 14), api.ErrFull, Row{2: 4, 7: 3}, 7},
		step{reserve(5, 1), api.OK, Row{2: 4, 5: 1, 7: 3}, 8},
		step{release(7, 3), api.OK, Row{2: 4, 5: 1}, 8},
		step{release(2, 4), api.OK, Row{5: 1}, 8},
		step{release(5, 1), api.OK, Row{}, 8},
		step{reserve(6, 20), api.OK, Row{6: 20}, 20},
		step{release(6, 20), api.OK, Row{}, 20},
	)
}

// P9.2: Seen of the first state, of one that comes again, of one that was before others, and of one that never was.
func TestSeen(t *testing.T) {
	l := made(t, 10)
	wantSeen(t, l, Row{}, 1)
	l.Reserve(0, 2)
	wantSeen(t, l, Row{}, 1)
	wantSeen(t, l, Row{2}, 1)
	l.Release(0, 2)
	wantSeen(t, l, Row{}, 2)
	// A call of 0, and a shift to itself, are behind a state that is the same.
	l.Reserve(3, 0)
	wantSeen(t, l, Row{}, 3)
	l.Release(4, 0)
	wantSeen(t, l, Row{}, 4)
	l.Shift(5, 6, 0)
	wantSeen(t, l, Row{}, 5)
	l.Shift(7, 7, 0)
	wantSeen(t, l, Row{}, 6)
	l.Reserve(0, 2)
	wantSeen(t, l, Row{2}, 2)
	l.Shift(0, 0, 2)
	wantSeen(t, l, Row{2}, 3)
	l.Shift(0, 0, 1)
	wantSeen(t, l, Row{2}, 4)
	l.Shift(0, 1, 2)
	wantSeen(t, l, Row{0, 2}, 1)
	l.Shift(1, 0, 2)
	wantSeen(t, l, Row{2}, 5)
	wantSeen(t, l, Row{}, 6)
	wantSeen(t, l, Row{0, 2}, 1)
	for _, row := range []Row{{1}, {1, 1}, {3}, {7: 2}, {0, 0, 2}, {-2}, {2, 2}, {2, -2, 2}, {10}, {math.MinInt}, {math.MaxInt, math.MaxInt, 2}} {
		wantSeen(t, l, row, 0)
	}
}

// P9.2: no error is a state.
func TestErrorsAreNotSeen(t *testing.T) {
	l, p := after(t, 10, reserve(1, 4))
	for _, c := range []call{reserve(0, 7), reserve(8, 0), reserve(0, -1), release(1, 5), release(-1, 0), release(1, -1), shift(1, 2, 5), shift(1, 8, 0), shift(-1, 1, 0), shift(1, 1, 5), shift(1, 1, -1)} {
		if errno := c.on(l); errno == api.OK {
			t.Fatalf("%s %d, %d, %d: no error", c.text(), c.from, c.to, c.n)
		}
		wantSeen(t, l, Row{1: 4}, 1)
		wantSeen(t, l, Row{}, 1)
		same(t, l, p)
	}
}

// P9.2: what only tells is no state, and changes nothing; asking for what never was makes no state of it.
func TestTellingIsNotSeen(t *testing.T) {
	l, p := after(t, 10, reserve(1, 4))
	for range 3 {
		l.Held(1)
		l.Total()
		l.Left()
		l.Peak()
		l.Clone()
		row := l.All()
		row[1] = 9
		l.Seen(row)
		wantSeen(t, l, row, 0)
		wantSeen(t, l, Row{1: 4}, 1)
		same(t, l, p)
	}
	apply(t, l, p, reserve(1, 5))
	wantSeen(t, l, Row{1: 9}, 1)
}

// P9.2: amounts that are alike in their sum, their lower bits or their order aren't the same.
func TestSeenOfAlikeAmounts(t *testing.T) {
	l := made(t, most)
	l.Reserve(0, 1<<32)
	l.Shift(0, 7, 1)
	for _, x := range []struct {
		row  Row
		want int
	}{
		{Row{}, 1}, {Row{0: 1 << 32}, 1}, {Row{0: 1<<32 - 1, 7: 1}, 1},
		{Row{7: 1 << 32}, 0}, {Row{0: 1, 7: 1<<32 - 1}, 0}, {Row{0: 1<<32 - 1, 6: 1}, 0}, {Row{0: -1, 7: 1}, 0}, {Row{0: 1 << 33}, 0}, {Row{0: 1 << 31}, 0}, {Row{0: 1<<32 - 1, 7: 1<<32 + 1}, 0}, {Row{0: 1<<62 + 1<<32}, 0}, {Row{0: math.MinInt + 1<<32}, 0},
	} {
		wantSeen(t, l, x.row, x.want)
	}
}

// P9.2: each kind has a place of its own in what was seen.
func TestSeenOfEachKind(t *testing.T) {
	for kind := range 8 {
		l, p := after(t, 10, reserve(kind, 3), reserve(kind, 0))
		for other := range 8 {
			want := 0
			if other == kind {
				want = 2
			}
			var row Row
			row[other] = 3
			wantSeen(t, l, row, want)
		}
		same(t, l, p)
	}
}

// P9.2: a clone is the same, and a change of either side doesn't change the other one.
func TestClone(t *testing.T) {
	for _, calls := range [][]call{nil, ofEachKind(), {reserve(0, 40), release(0, 30)}, {reserve(7, 50), shift(7, 1, 20), shift(1, 1, 4)}} {
		l, p := after(t, 50, calls...)
		c, q := l.Clone(), p.clone()
		same(t, c, q)
		for kind := range 8 {
			apply(t, l, p, release(kind, p.now()[kind]), reserve(kind, 0))
			same(t, l, p)
			same(t, c, q)
		}
		apply(t, c, q, shift(0, 7, q.now()[0]), reserve(7, 50-sum(q.now())))
		same(t, l, p)
		same(t, c, q)
		again, r := c.Clone(), q.clone()
		apply(t, c, q, release(7, 1), reserve(2, 1), shift(2, 3, 1))
		same(t, again, r)
		same(t, l, p)
		apply(t, again, r, reserve(7, 1), release(7, q.now()[7]))
		same(t, again, r)
		same(t, c, q)
		same(t, l, p)
	}
}

// P9.2: Seen, Peak and Left are each side's own behind a clone, in written numbers.
func TestCloneApart(t *testing.T) {
	l := made(t, 10)
	l.Reserve(0, 2)
	c := l.Clone()
	l.Reserve(0, 0)
	wantSeen(t, l, Row{2}, 2)
	wantSeen(t, c, Row{2}, 1)
	c.Shift(0, 1, 2)
	wantSeen(t, c, Row{0, 2}, 1)
	wantSeen(t, l, Row{0, 2}, 0)
	c.Reserve(5, 6)
	if l.Peak() != 2 || c.Peak() != 8 || l.Left() != 8 || c.Left() != 2 || l.Held(0) != 2 || c.Held(0) != 0 {
		t.Errorf("Peak %d, %d; Left %d, %d; %v, %v", l.Peak(), c.Peak(), l.Left(), c.Left(), l.All(), c.All())
	}
	l.Reserve(3, 8)
	if l.Peak() != 10 || c.Peak() != 8 || c.Reserve(0, 2) != api.OK || l.Reserve(0, 1) != api.ErrFull {
		t.Errorf("Peak %d, %d; Left %d, %d", l.Peak(), c.Peak(), l.Left(), c.Left())
	}
}

// P9.2: that All's answer is changed changes nothing, and a later call doesn't change it.
func TestAllIsNew(t *testing.T) {
	l, p := after(t, 50, ofEachKind()...)
	first, second := l.All(), l.All()
	first[0], first[7] = 99, -99
	same(t, l, p)
	apply(t, l, p, release(3, 4), shift(7, 0, 8))
	if second != (Row{1, 2, 3, 4, 5, 6, 7, 8}) {
		t.Errorf("a later call has changed an answer: %v", second)
	}
}

// fewCalls: all calls of the first and the last kind and of few amounts, wrong ones among them.
func fewCalls(greatest int) []call {
	var calls []call
	for n := -1; n <= greatest; n++ {
		for _, kind := range []int{0, 7} {
			calls = append(calls, reserve(kind, n), release(kind, n), shift(kind, 0, n), shift(kind, 7, n))
		}
	}
	return calls
}

// walk: every call behind every row of calls, each on a clone; the one that was cloned stays as it was.
func walk(t *testing.T, l *Ledger, p *plain, calls []call, depth int) {
	t.Helper()
	same(t, l, p)
	if depth == 0 {
		return
	}
	for _, c := range calls {
		next, q := l.Clone(), p.clone()
		apply(t, next, q, c)
		walk(t, next, q, calls, depth-1)
	}
	same(t, l, p)
}

// P9.1, P9.2: every row of up to three calls, at small capacities.
func TestEveryRowOfCalls(t *testing.T) {
	for capacity := range 3 {
		walk(t, made(t, capacity), newPlain(capacity), fewCalls(capacity+1), 3)
	}
}

// picks: a row of numbers that is always the same and looks like none.
type picks uint64

func (k *picks) below(n int) int {
	*k = *k*6364136223846793005 + 1442695040888963407
	return int(uint64(*k)>>33) % n
}

// P9.1, P9.2: many calls one after another, at small and at great capacities.
func TestManyChanges(t *testing.T) {
	for _, x := range []struct{ capacity, amount, calls int }{{0, 2, 300}, {1, 3, 2000}, {3, 3, 3000}, {20, 8, 3000}, {4096, 600, 3000}, {most, 1 << 30, 1500}} {
		l, p := made(t, x.capacity), newPlain(x.capacity)
		k := picks(x.capacity)
		for range x.calls {
			kind, to, n := k.below(8), k.below(8), k.below(x.amount)
			switch k.below(8) {
			case 0, 1:
				apply(t, l, p, reserve(kind, n))
			case 2:
				apply(t, l, p, release(kind, n))
			case 3:
				apply(t, l, p, release(kind, p.now()[kind]))
			case 4:
				apply(t, l, p, shift(kind, to, n))
			case 5:
				apply(t, l, p, shift(kind, to, p.now()[kind]+k.below(2)))
			case 6:
				apply(t, l, p, reserve(kind, p.capacity-sum(p.now())+k.below(2)))
			default:
				apply(t, l, p, shift(k.below(10)-1, k.below(10)-1, n-1))
			}
			sameAmounts(t, l, p)
		}
		same(t, l, p)
	}
}

// P9.1, P9.2, P1: every call at any numbers.
func TestAnyNumbers(t *testing.T) {
	for _, x := range []struct {
		capacity int
		calls    []call
	}{
		{0, nil}, {most, nil}, {50, ofEachKind()}, {most, []call{reserve(0, most)}}, {most, []call{reserve(7, most-1)}},
	} {
		numbers := hostileInts(x.capacity)
		l, p := after(t, x.capacity, x.calls...)
		for _, n := range numbers {
			for _, kind := range []int{math.MinInt, -8, -1, 0, 3, 7, 8, 1 << 32, 1<<32 + 7, math.MaxInt} {
				for _, c := range []call{reserve(kind, n), release(kind, n), shift(kind, 7, n), shift(0, kind, n), shift(kind, kind, n), reserve(n, kind), release(n, kind), shift(n, kind, 1), shift(kind, n, 1)} {
					one, q := l.Clone(), p.clone()
					apply(t, one, q, c)
					sameAmounts(t, one, q)
				}
			}
			for kind := range 8 {
				row := p.now()
				row[kind] = n
				sameSeen(t, l, p, row)
			}
		}
		same(t, l, p)
	}
}
