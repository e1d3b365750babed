package tablea

import (
	"math"
	"slices"
	"testing"
)

// wantSizes and wantSlots are written out, not reckoned.
var (
	wantSizes = []int{16, 32, 48, 64, 80, 96, 112, 128, 160, 192, 224, 256, 320, 384, 448, 512}
	wantSlots = []int{64, 32, 21, 16, 12, 10, 9, 8, 6, 5, 4, 4, 3, 2, 2, 2}
)

// hostileInts: numbers at which a bound, a class or an alignment may go wrong.
func hostileInts() []int {
	list := []int{math.MinInt, math.MinInt + 1, math.MaxInt - 1, math.MaxInt, -512, -129, -16, -5, 3, 5, 12, 24, 48, 96, 0x5555555555555555, 1<<32 + 16, 1<<32 + 130, 1<<62 + 16}
	for k := range 63 {
		list = append(list, 1<<k-1, 1<<k, 1<<k+1, 3<<k, -1<<k)
	}
	for d := -2; d <= 2; d++ {
		list = append(list, d, 16+d, 512+d, 4096+d, 8192+d)
	}
	return list
}

// ruledSizes: the classes by the chapter's rule: sixteens up to 128, then quarters.
func ruledSizes() []int {
	var list []int
	for n := 16; n <= 128; n += 16 {
		list = append(list, n)
	}
	for _, base := range []int{128, 256} {
		for quarters := 1; quarters <= 4; quarters++ {
			list = append(list, base+quarters*base/4)
		}
	}
	return list
}

// countedSlots: slots are laid from the slab's beginning on till one doesn't fit.
func countedSlots(size int) int {
	slots := 0
	for end := size; end <= 1024; end += size {
		slots++
	}
	return slots
}

func plainAlign(align int) bool {
	return slices.Contains([]int{1, 2, 4, 8, 16, 32, 64, 128, 256, 512, 1024, 2048, 4096}, align)
}

// plainAligned goes down from the greatest class, so the last one that fits is the first of the table.
func plainAligned(n, align int) int {
	found := -1
	if n < 0 || n > 512 || !plainAlign(align) {
		return found
	}
	for class := 15; class >= 0; class-- {
		if wantSizes[class] >= n && wantSizes[class]/align*align == wantSizes[class] {
			found = class
		}
	}
	return found
}

// wantClass holds an answer against the wanted class, -1 for none; call tells whose it is, with its arguments.
func wantClass(t *testing.T, class int, ok bool, want int, call ...any) {
	t.Helper()
	if class != want || ok != (want >= 0) {
		t.Errorf("%v: %d, %v, want %d", call, class, ok, want)
	}
}

// P5.1: Sizes tells all 16 in their order, as the chapter's rule makes them.
func TestSizes(t *testing.T) {
	if list := Sizes(); !slices.Equal(list, wantSizes) || !slices.Equal(list, ruledSizes()) {
		t.Errorf("Sizes: %v, want %v, by the rule %v", list, wantSizes, ruledSizes())
	}
}

// P5.2: a change of one answer, its spare room too, changes neither the next one nor any other call's.
func TestSizesIsNewMemory(t *testing.T) {
	first, second := Sizes(), Sizes()
	for k := range first[:cap(first)] {
		first[:cap(first)][k] = -7
	}
	if third := Sizes(); !slices.Equal(second, wantSizes) || !slices.Equal(third, wantSizes) {
		t.Errorf("Sizes after a change: %v, then %v", second, third)
	}
	for class, size := range wantSizes {
		if Size(class) != size || Slots(class) != wantSlots[class] {
			t.Errorf("class %d after a change: %d bytes, %d slots", class, Size(class), Slots(class))
		}
		got, ok := Class(size)
		wantClass(t, got, ok, class, "Class after a change", size)
		got, ok = Aligned(size, 16)
		wantClass(t, got, ok, class, "Aligned after a change", size, 16)
	}
}

// P5.1: Class at plain sizes, at the named edges, and at what is no size.
func TestClassAtEdges(t *testing.T) {
	for _, x := range []struct{ n, want int }{
		{40, 2}, {130, 8}, {300, 12}, {450, 15},
		{0, 0}, {1, 0}, {16, 0}, {17, 1}, {127, 7}, {128, 7}, {129, 8}, {160, 8}, {161, 9},
		{256, 11}, {257, 12}, {511, 15}, {512, 15}, {513, -1},
		{-1, -1}, {-16, -1}, {-512, -1}, {514, -1}, {1024, -1}, {1<<32 + 16, -1}, {math.MinInt, -1}, {math.MaxInt, -1},
	} {
		class, ok := Class(x.n)
		wantClass(t, class, ok, x.want, "Class", x.n)
	}
}

// P5.1: Class of each class's size, of one below it and of one above it.
func TestClassAboutEachSize(t *testing.T) {
	for k, size := range wantSizes {
		next := k + 1
		if next == 16 {
			next = -1
		}
		for _, x := range []struct{ n, want int }{{size - 1, k}, {size, k}, {size + 1, next}} {
			class, ok := Class(x.n)
			wantClass(t, class, ok, x.want, "Class", x.n)
		}
	}
}

// P5.1: Class of every size, one after the other: it rises by one behind each class's size.
func TestClassStepByStep(t *testing.T) {
	want := 0
	for n := range 513 {
		if n > wantSizes[want] {
			want++
		}
		class, ok := Class(n)
		wantClass(t, class, ok, want, "Class", n)
	}
}

// P5.1, P1: Class at any numbers.
func TestClassAnyNumber(t *testing.T) {
	for _, n := range hostileInts() {
		class, ok := Class(n)
		wantClass(t, class, ok, plainAligned(n, 1), "Class", n)
	}
}

// P5.1: Size and Slots of each class.
func TestSizeAndSlotsOfClasses(t *testing.T) {
	for class, size := range wantSizes {
		if Size(class) != size {
			t.Errorf("Size(%d): %d, want %d", class, Size(class), size)
		}
		if slots := Slots(class); slots != wantSlots[class] || slots != countedSlots(size) {
			t.Errorf("Slots(%d): %d, want %d, counted %d", class, slots, wantSlots[class], countedSlots(size))
		}
	}
}

// P5.1, P1: Size and Slots of what is no class: 0.
func TestSizeAndSlotsOfNone(t *testing.T) {
	for _, class := range append(hostileInts(), -1, 16, 17, 1<<32, 1<<32+15) {
		if class >= 0 && class <= 15 {
			continue
		}
		if Size(class) != 0 || Slots(class) != 0 {
			t.Errorf("class %d: %d bytes, %d slots", class, Size(class), Slots(class))
		}
	}
}

// P5.2: Aligned at plain inputs: the own class is a multiple, a later one is, or none from there on.
func TestAlignedAtEdges(t *testing.T) {
	for _, x := range []struct{ n, align, want int }{
		{130, 64, 9}, {40, 16, 2}, {40, 32, 3}, {100, 8, 6},
		{0, 1, 0}, {130, 1, 8}, {512, 1, 15}, {0, 16, 0}, {449, 16, 15},
		{0, 32, 1}, {16, 32, 1}, {32, 32, 1}, {33, 32, 3}, {112, 32, 7}, {224, 32, 10},
		{1, 64, 3}, {65, 64, 7}, {129, 64, 9}, {193, 64, 11}, {224, 64, 11}, {257, 64, 12}, {448, 64, 14}, {449, 64, 15},
		{1, 128, 7}, {128, 128, 7}, {129, 128, 11}, {257, 128, 13}, {385, 128, 15},
		{0, 256, 11}, {256, 256, 11}, {257, 256, 15}, {512, 256, 15},
		{0, 512, 15}, {512, 512, 15},
		{0, 1024, -1}, {512, 1024, -1}, {1, 2048, -1}, {1, 4096, -1}, {512, 4096, -1}, {1, 8192, -1},
	} {
		class, ok := Aligned(x.n, x.align)
		wantClass(t, class, ok, x.want, "Aligned", x.n, x.align)
	}
}

// P5.2: wrong inputs: -1 and false.
func TestAlignedOfWrongInputs(t *testing.T) {
	for _, x := range []struct{ n, align int }{
		{-1, 1}, {-16, 16}, {513, 1}, {513, 16}, {1024, 1024}, {4096, 4096}, {math.MinInt, 1}, {math.MaxInt, 1}, {1<<32 + 16, 16},
		{5, 0}, {0, 0}, {5, -1}, {5, -16}, {0, -16}, {5, math.MinInt}, {5, math.MaxInt}, {5, 1<<32 + 16},
		{5, 3}, {5, 5}, {5, 6}, {5, 12}, {48, 48}, {5, 80}, {96, 96}, {160, 160}, {5, 4095}, {5, 4097}, {5, 6144}, {5, 8192}, {5, 1 << 40}, {5, 1 << 62},
		{-1, 0}, {513, 3}, {math.MinInt, math.MinInt}, {math.MaxInt, math.MaxInt},
	} {
		class, ok := Aligned(x.n, x.align)
		wantClass(t, class, ok, -1, "Aligned", x.n, x.align)
	}
}

// P5.2: every size with every alignment up to beyond 8,192, powers and others.
func TestAlignedStepByStep(t *testing.T) {
	for n := -2; n <= 515; n++ {
		for align := -2; align <= 8194; align++ {
			class, ok := Aligned(n, align)
			if want := plainAligned(n, align); class != want || ok != (want >= 0) {
				t.Fatalf("Aligned(%d, %d): %d, %v, want %d", n, align, class, ok, want)
			}
		}
	}
}

// P5.2, P1: Aligned at all pairs of any numbers.
func TestAlignedAnyNumbers(t *testing.T) {
	list := hostileInts()
	for _, n := range list {
		for _, align := range list {
			class, ok := Aligned(n, align)
			wantClass(t, class, ok, plainAligned(n, align), "Aligned", n, align)
		}
	}
}
