package sizes

import (
	"math"
	"math/big"
	"testing"

	"underpin/api"
)

const greatest = 1 << 40

// hostileInts: numbers at which a size, a power or a narrow number may go wrong.
func hostileInts() []int {
	list := []int{math.MinInt, math.MinInt + 1, -greatest - 1, -greatest, -65536, -4096, -256, -8, -5, -3, 0, 5, 6, 7, 12, 24, 33, 47, 48, 49, 96, 1000, 65534, 0x5555555555, 0x123456789a, 0xaaaaaaaaaa, math.MaxInt - 1, math.MaxInt}
	for k := range 63 {
		list = append(list, 1<<k-1, 1<<k, 1<<k+1, 3<<k, -1<<k)
	}
	for d := -2; d <= 2; d++ {
		list = append(list, d, 256+d, 512+d, 65536+d, greatest+d, greatest-256+d, greatest/2+d)
	}
	return list
}

// hostileRequests: requests at which a bound, a product or an alignment may go wrong.
func hostileRequests() []uint64 {
	list := []uint64{math.MaxUint64, math.MaxUint64 - 1, 0x5555555555555555, 0x5555555555555556, 0xaaaaaaaaaaaaaaab, 0x0123456789abcdef}
	for _, n := range hostileInts() {
		list = append(list, uint64(n))
	}
	return append(list, 1<<63-1, 1<<63, 1<<63+1, 1<<63+4096, 1<<32+1, 1<<32+4096, 1<<20+1)
}

// powers: every power, by doubling.
func powers() []int {
	var list []int
	for p := 1; p <= greatest; p += p {
		list = append(list, p)
	}
	return list
}

func plainPower(n int) bool {
	for _, p := range powers() {
		if n == p {
			return true
		}
	}
	return false
}

func plainSize(n int) bool { return n >= 0 && n <= greatest }

// sized: a number of any length as a size, as the chapter tells it.
func sized(product *big.Int) (int, api.Errno) {
	if product.Cmp(big.NewInt(greatest)) > 0 {
		return 0, api.ErrLarge
	}
	return int(product.Int64()), api.OK
}

// plainLog halves, and plainGrain too: no bit is looked at.
func plainLog(n int) int {
	k := -1
	for ; n > 0; n /= 2 {
		k++
	}
	return k
}

func plainGrain(n int) int {
	if n < 1 {
		return 0
	}
	grain := 1
	for ; n%2 == 0; n /= 2 {
		grain *= 2
	}
	return grain
}

// wantNumber holds an answer against the wanted one; call tells whose it is, with its arguments.
func wantNumber(t *testing.T, got int, e api.Errno, want int, wantE api.Errno, call ...any) {
	t.Helper()
	if got != want || e != wantE {
		t.Errorf("%v: %d, %v, want %d, %v", call, got, e, want, wantE)
	}
}

// P4.1: Of at plain requests and at the named edges.
func TestOfAtEdges(t *testing.T) {
	for _, x := range []struct {
		request uint64
		want    int
		e       api.Errno
	}{
		{0, 0, api.OK}, {1, 1, api.OK}, {40, 40, api.OK}, {1<<32 + 7, 1<<32 + 7, api.OK},
		{1<<40 - 1, 1<<40 - 1, api.OK}, {1 << 40, 1 << 40, api.OK}, {1<<40 + 1, 0, api.ErrLarge},
		{1 << 41, 0, api.ErrLarge}, {1<<63 - 1, 0, api.ErrLarge}, {1 << 63, 0, api.ErrLarge}, {1<<63 + 1, 0, api.ErrLarge}, {math.MaxUint64, 0, api.ErrLarge},
	} {
		n, e := Of(x.request)
		if n != x.want || e != x.e {
			t.Errorf("Of(%d): %d, %v", x.request, n, e)
		}
	}
}

// P4.1, P1: Of at any numbers.
func TestOfAnyRequest(t *testing.T) {
	for _, request := range hostileRequests() {
		want, wantE := sized(new(big.Int).SetUint64(request))
		n, e := Of(request)
		if n != want || e != wantE {
			t.Errorf("Of(%d): %d, %v", request, n, e)
		}
	}
}

// P4.1: Times at plain requests and at the named edges: products with 0, about 2^40, and such as go round.
func TestTimesAtEdges(t *testing.T) {
	for _, x := range []struct {
		count, each uint64
		want        int
		e           api.Errno
	}{
		{3, 5, 15, api.OK}, {1, 1, 1, api.OK},
		{0, 0, 0, api.OK}, {0, 1, 0, api.OK}, {0, math.MaxUint64, 0, api.OK}, {0, 1<<40 + 1, 0, api.OK},
		{1, 1<<40 - 1, 1<<40 - 1, api.OK}, {1, 1 << 40, 1 << 40, api.OK}, {1, 1<<40 + 1, 0, api.ErrLarge},
		{1<<20 - 1, 1<<20 + 1, 1<<40 - 1, api.OK}, {1 << 20, 1 << 20, 1 << 40, api.OK}, {1 << 20, 1<<20 + 1, 0, api.ErrLarge},
		{257, 4278255361, 0, api.ErrLarge}, // 2^40 + 1
		{2, 1 << 39, 1 << 40, api.OK}, {2, 1<<39 + 1, 0, api.ErrLarge},
		{1 << 32, 1 << 32, 0, api.ErrLarge},               // round, it would be 0
		{1 << 63, 2, 0, api.ErrLarge},                     // round, 0
		{3, 0x5555555555555556, 0, api.ErrLarge},          // round, 2
		{3, 0xaaaaaaaaaaaaaaab, 0, api.ErrLarge},          // round, 1
		{1<<32 + 1, 1 << 32, 0, api.ErrLarge},             // round, 2^32
		{1 << 40, 1<<24 + 1, 0, api.ErrLarge},             // round, 2^40
		{math.MaxUint64, math.MaxUint64, 0, api.ErrLarge}, // round, 1
		{1 << 32, 1<<32 - 1, 0, api.ErrLarge},             // within 64 bits, yet no int
		{1 << 31, 1 << 32, 0, api.ErrLarge},
	} {
		for range 2 {
			n, e := Times(x.count, x.each)
			if n != x.want || e != x.e {
				t.Errorf("Times(%d, %d): %d, %v", x.count, x.each, n, e)
			}
			x.count, x.each = x.each, x.count
		}
	}
}

// P4.1, P1: Times at all pairs, held against a product without a bound.
func TestTimesAnyRequests(t *testing.T) {
	list := hostileRequests()
	for _, count := range list {
		a := new(big.Int).SetUint64(count)
		for _, each := range list {
			want, wantE := sized(new(big.Int).Mul(a, new(big.Int).SetUint64(each)))
			n, e := Times(count, each)
			if n != want || e != wantE {
				t.Fatalf("Times(%d, %d): %d, %v, want %d, %v", count, each, n, e, want, wantE)
			}
		}
	}
}

// P4.1: Align at plain requests, at the named edges, and at what is no power.
func TestAlignAtEdges(t *testing.T) {
	for request, want := range map[uint64]int{0: 1, 1: 1, 2: 2, 16: 16, 2048: 2048, 4096: 4096} {
		if n, e := Align(request); n != want || e != api.OK {
			t.Errorf("Align(%d): %d, %v", request, n, e)
		}
	}
	for _, request := range []uint64{3, 5, 6, 7, 12, 24, 255, 257, 4095, 4097, 6144, 8191, 8192, 1 << 32, 1<<32 + 1, 1 << 40, 1 << 41, 1 << 62, 1 << 63, 1<<63 + 1, math.MaxUint64} {
		if n, e := Align(request); n != 0 || e != api.ErrRange {
			t.Errorf("Align(%d): %d, %v", request, n, e)
		}
	}
}

// P4.1, P1: Align at every number up to beyond the greatest alignment, and at any others.
func TestAlignAnyRequest(t *testing.T) {
	list := hostileRequests()
	for request := range uint64(9000) {
		list = append(list, request)
	}
	for _, request := range list {
		want, wantE := 0, api.ErrRange
		for p := 1; p <= 4096; p += p {
			if request == uint64(p) {
				want, wantE = p, api.OK
			}
		}
		if request == 0 {
			want, wantE = 1, api.OK
		}
		if n, e := Align(request); n != want || e != wantE {
			t.Errorf("Align(%d): %d, %v", request, n, e)
		}
	}
}

// P4.2: Up and Down at plain inputs and at the named edges.
func TestUpAndDownAtEdges(t *testing.T) {
	for _, x := range []struct{ n, power, up, down int }{
		{33, 16, 48, 32}, {0, 8, 0, 0}, {0, 1, 0, 0}, {0, greatest, 0, 0}, {7, 1, 7, 7},
		{47, 16, 48, 32}, {48, 16, 48, 48}, {49, 16, 64, 48},
		{1, 2, 2, 0}, {2, 2, 2, 2}, {5, 8, 8, 0}, {4095, 4096, 4096, 0}, {4097, 4096, 8192, 4096},
		{1, greatest, greatest, 0}, {greatest - 1, greatest, greatest, 0}, {greatest, greatest, greatest, greatest},
		{greatest - 1, 1, greatest - 1, greatest - 1}, {greatest, 1, greatest, greatest}, {greatest, 256, greatest, greatest},
		{greatest - 255, 256, greatest, greatest - 256}, {greatest/2 + 1, greatest / 2, greatest, greatest / 2},
	} {
		up, e := Up(x.n, x.power)
		wantNumber(t, up, e, x.up, api.OK, "Up", x.n, x.power)
		down, e := Down(x.n, x.power)
		wantNumber(t, down, e, x.down, api.OK, "Down", x.n, x.power)
	}
}

// P4.2: what is no size, or no power, is ErrRange and 0.
func TestUpAndDownOfWrongInputs(t *testing.T) {
	for _, x := range []struct{ n, power int }{
		{-1, 8}, {-8, 8}, {math.MinInt, 8}, {math.MinInt, 1}, {greatest + 1, 8}, {greatest + 8, 8}, {math.MaxInt, 1}, {math.MaxInt, 8},
		{5, 0}, {0, 0}, {5, -1}, {5, -8}, {5, math.MinInt}, {0, math.MinInt}, {5, 3}, {5, 6}, {6, 6}, {5, 255}, {5, greatest - 1}, {5, greatest + 1}, {5, 2 * greatest}, {0, 2 * greatest}, {5, 1 << 62}, {5, math.MaxInt},
		{-1, 0}, {greatest + 1, 3}, {math.MinInt, math.MinInt}, {math.MaxInt, math.MaxInt},
	} {
		up, e := Up(x.n, x.power)
		wantNumber(t, up, e, 0, api.ErrRange, "Up", x.n, x.power)
		down, e := Down(x.n, x.power)
		wantNumber(t, down, e, 0, api.ErrRange, "Down", x.n, x.power)
	}
}

// P4.2: every small size to every small power, held against multiples that are gone through.
func TestUpAndDownStepByStep(t *testing.T) {
	for _, power := range []int{1, 2, 4, 8, 16, 64, 256, 1024, 4096} {
		below := 0
		for n := range 5000 {
			if n == below+power {
				below = n
			}
			above := below
			if below < n {
				above = below + power
			}
			up, e := Up(n, power)
			wantNumber(t, up, e, above, api.OK, "Up", n, power)
			down, e := Down(n, power)
			wantNumber(t, down, e, below, api.OK, "Down", n, power)
		}
	}
}

// P4.2, P1: Up and Down at all pairs. 2^40 is a multiple of every power, so no size's least multiple is above it.
func TestUpAndDownAnyNumbers(t *testing.T) {
	list := hostileInts()
	for _, n := range list {
		for _, power := range list {
			wantUp, wantDown, wantE := 0, 0, api.ErrRange
			if plainSize(n) && plainPower(power) {
				wantUp, wantDown, wantE = (n+power-1)/power*power, n/power*power, api.OK
			}
			if wantUp > greatest {
				t.Fatalf("the least multiple of %d from %d on is above 2^40", power, n)
			}
			up, e := Up(n, power)
			down, f := Down(n, power)
			if up != wantUp || e != wantE || down != wantDown || f != wantE {
				t.Fatalf("%d to %d: Up %d, %v, Down %d, %v", n, power, up, e, down, f)
			}
		}
	}
}

// P4.2: Power at the named edges and at any numbers.
func TestPower(t *testing.T) {
	for n, want := range map[int]bool{math.MinInt: false, -8: false, -1: false, 0: false, 1: true, 2: true, 3: false, 4: true, 6: false, 255: false, 256: true, greatest - 1: false, greatest: true, greatest + 1: false, 2 * greatest: false, 1 << 62: false, math.MaxInt: false} {
		if Power(n) != want {
			t.Errorf("Power(%d): %v", n, !want)
		}
	}
	list := hostileInts()
	for n := range 5000 {
		list = append(list, n)
	}
	for _, n := range list {
		if Power(n) != plainPower(n) {
			t.Errorf("Power(%d): %v", n, Power(n))
		}
	}
}

// P4.2: Log and Grain at the named edges: 1, powers, one below and one above, the greatest number, and below 1.
func TestLogAndGrainAtEdges(t *testing.T) {
	for _, x := range []struct{ n, log, grain int }{
		{1, 0, 1}, {2, 1, 2}, {3, 1, 1}, {4, 2, 4}, {5, 2, 1}, {48, 5, 16}, {96, 6, 32},
		{255, 7, 1}, {256, 8, 256}, {257, 8, 1},
		{greatest - 1, 39, 1}, {greatest, 40, greatest}, {greatest + 1, 40, 1}, {2 * greatest, 41, 2 * greatest},
		{1<<62 - 1, 61, 1}, {1 << 62, 62, 1 << 62}, {1<<62 + 1, 62, 1}, {3 << 61, 62, 1 << 61},
		{math.MaxInt, 62, 1}, {math.MaxInt - 1, 62, 2},
		{0, -1, 0}, {-1, -1, 0}, {-8, -1, 0}, {math.MinInt + 1, -1, 0}, {math.MinInt, -1, 0},
	} {
		if Log(x.n) != x.log || Grain(x.n) != x.grain {
			t.Errorf("%d: Log %d, Grain %d, want %d, %d", x.n, Log(x.n), Grain(x.n), x.log, x.grain)
		}
	}
}

// P4.2, P1: Log and Grain at any numbers, held against halves.
func TestLogAndGrainAnyNumber(t *testing.T) {
	list := hostileInts()
	for n := range 5000 {
		list = append(list, n, math.MaxInt-n)
	}
	for _, n := range list {
		if Log(n) != plainLog(n) || Grain(n) != plainGrain(n) {
			t.Errorf("%d: Log %d, Grain %d", n, Log(n), Grain(n))
		}
	}
}

// P4.2: Pages at the named edges and at what is no size.
func TestPagesAtEdges(t *testing.T) {
	for _, x := range []struct{ n, want int }{
		{0, 1}, {1, 1}, {255, 1}, {256, 1}, {257, 2}, {511, 2}, {512, 2}, {513, 3}, {api.MaxArena, api.MaxPages}, {api.MaxArena + 1, api.MaxPages + 1},
		{greatest - 256, 1<<32 - 1}, {greatest - 255, 1 << 32}, {greatest - 1, 1 << 32}, {greatest, 1 << 32},
	} {
		pages, e := Pages(x.n)
		wantNumber(t, pages, e, x.want, api.OK, "Pages", x.n)
	}
	for _, n := range []int{-1, -256, -greatest, math.MinInt, math.MinInt + 1, greatest + 1, greatest + 256, 2 * greatest, math.MaxInt - 255, math.MaxInt} {
		pages, e := Pages(n)
		wantNumber(t, pages, e, 0, api.ErrRange, "Pages", n)
	}
}

// P4.2, P1: Pages at any numbers: so many hold the bytes, and one less doesn't.
func TestPagesAnyNumber(t *testing.T) {
	list := hostileInts()
	for n := range 5000 {
		list = append(list, n, greatest-n)
	}
	for _, n := range list {
		pages, e := Pages(n)
		if !plainSize(n) {
			wantNumber(t, pages, e, 0, api.ErrRange, "Pages", n)
			continue
		}
		if e != api.OK || pages < 1 || pages*256 < n || pages > 1 && (pages-1)*256 >= n {
			t.Errorf("Pages(%d): %d, %v", n, pages, e)
		}
	}
}

// P4.2: Narrow at every number of 16 bits, about its edges, and at any numbers.
func TestNarrow(t *testing.T) {
	want := uint16(0)
	for n := range 65536 {
		if v, ok := Narrow(n); v != want || !ok {
			t.Fatalf("Narrow(%d): %d, %v", n, v, ok)
		}
		want++
	}
	for _, n := range append(hostileInts(), -1, -65536, -65535, 65536, 65537, 1<<16+5, 1<<32, 1<<32+5, math.MinInt+5) {
		v, ok := Narrow(n)
		if in := n >= 0 && n <= 65535; ok != in || in && int(v) != n || !in && v != 0 {
			t.Errorf("Narrow(%d): %d, %v", n, v, ok)
		}
	}
}
