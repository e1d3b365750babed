package tableb

import (
	"math"
	"slices"
	"testing"

	"underpin/tablea"
)

// What is wanted is written out, not reckoned; its first index is the layout.
var (
	wantSizes = [2][]int{
		{16, 32, 48, 64, 80, 96, 112, 128, 160, 192, 224, 256, 320, 384, 448, 512},
		{8, 16, 24, 32, 48, 64, 96, 128, 192, 256, 384, 512},
	}
	wantSlots = [2][]int{
		{64, 32, 21, 16, 12, 10, 9, 8, 6, 5, 4, 4, 3, 2, 2, 2},
		{128, 64, 42, 32, 21, 16, 10, 8, 5, 4, 2, 2},
	}
	wantTwins = [2][]int{
		{1, 3, 4, 5, -1, 6, -1, 7, -1, 8, -1, 9, -1, 10, -1, 11},
		{-1, 0, -1, 1, 2, 3, 5, 7, 9, 11, 13, 15},
	}
	wantBoth = []int{16, 32, 48, 64, 96, 128, 192, 256, 384, 512}
)

// noLayouts: versions that are none.
func noLayouts() []int {
	return []int{-1, -2, 2, 3, 16, 255, 256, 257, 1 << 32, 1<<32 + 1, 1 << 62, math.MinInt, math.MinInt + 1, math.MaxInt}
}

// hostileInts: numbers at which a bound, a class or an alignment may go wrong.
func hostileInts() []int {
	list := []int{math.MinInt, math.MinInt + 1, math.MaxInt - 1, math.MaxInt, -512, -129, -16, -5, 3, 5, 12, 24, 48, 96, 0x5555555555555555, 1<<32 + 16, 1<<32 + 130, 1<<62 + 16}
	for k := range 63 {
		list = append(list, 1<<k-1, 1<<k, 1<<k+1, 3<<k, -1<<k)
	}
	for d := -2; d <= 2; d++ {
		list = append(list, d, 8+d, 12+d, 16+d, 512+d, 4096+d, 8192+d)
	}
	return list
}

// ruledSizes: the new layout's classes by the chapter's rule: 8, then powers and one and a half times each, up to 512.
func ruledSizes() []int {
	list := []int{8}
	for power := 16; power <= 512; power *= 2 {
		for _, n := range []int{power, power + power/2} {
			if n <= 512 {
				list = append(list, n)
			}
		}
	}
	return list
}

// countedSlots: slots are laid from the slab's beginning on till one doesn't fit.
func countedSlots(size int) int {
	slots := 0
	for end := size; end <= 1024; end += size {
		slots++
	}
	return slots
}

func plainAlign(align int) bool {
	return slices.Contains([]int{1, 2, 4, 8, 16, 32, 64, 128, 256, 512, 1024, 2048, 4096}, align)
}

// plainAligned goes down from the greatest class, so the last one that fits is the first of the table.
func plainAligned(version, n, align int) int {
	found := -1
	if version < 0 || version > 1 || n < 0 || n > 512 || !plainAlign(align) {
		return found
	}
	for class := len(wantSizes[version]) - 1; class >= 0; class-- {
		if size := wantSizes[version][class]; size >= n && size/align*align == size {
			found = class
		}
	}
	return found
}

// wantClass holds an answer against the wanted class, -1 for none; call tells whose it is, with its arguments.
func wantClass(t *testing.T, class int, ok bool, want int, call ...any) {
	t.Helper()
	if class != want || ok != (want >= 0) {
		t.Errorf("%v: %d, %v, want %d", call, class, ok, want)
	}
}

// P6.1: a layout is 0, the old one, or 1, the new one.
func TestLayouts(t *testing.T) {
	if VOld != 0 || VNew != 1 {
		t.Errorf("layouts: %d, %d", VOld, VNew)
	}
}

// P6.1: Sizes tells all of both layouts in their order, as the chapters' rules make them.
func TestSizes(t *testing.T) {
	for version, want := range wantSizes {
		if list := Sizes(version); !slices.Equal(list, want) {
			t.Errorf("Sizes(%d): %v, want %v", version, list, want)
		}
	}
	if list := Sizes(VNew); !slices.Equal(list, ruledSizes()) {
		t.Errorf("Sizes(VNew): %v, by the rule %v", list, ruledSizes())
	}
	if list := Sizes(VOld); !slices.Equal(list, tablea.Sizes()) {
		t.Errorf("Sizes(VOld): %v, layer 5's %v", list, tablea.Sizes())
	}
}

// P6.1, P1: Sizes of what is no layout: nothing.
func TestSizesOfNone(t *testing.T) {
	for _, version := range append(hostileInts(), noLayouts()...) {
		if version == 0 || version == 1 {
			continue
		}
		if list := Sizes(version); len(list) != 0 {
			t.Errorf("Sizes(%d): %v", version, list)
		}
	}
}

// P6.2: a change of one answer, its spare room too, changes neither the next one nor any other call's.
func TestSizesIsNewMemory(t *testing.T) {
	for version, want := range wantSizes {
		first, second := Sizes(version), Sizes(version)
		for k := range first[:cap(first)] {
			first[:cap(first)][k] = -7
		}
		if third := Sizes(version); !slices.Equal(second, want) || !slices.Equal(third, want) {
			t.Errorf("Sizes(%d) after a change: %v, then %v", version, second, third)
		}
		for class, size := range want {
			if Size(version, class) != size || Slots(version, class) != wantSlots[version][class] {
				t.Errorf("layout %d, class %d after a change: %d bytes, %d slots", version, class, Size(version, class), Slots(version, class))
			}
			if twin := Twin(version, class); twin != wantTwins[version][class] {
				t.Errorf("Twin(%d, %d) after a change: %d", version, class, twin)
			}
			got, ok := Class(version, size)
			wantClass(t, got, ok, class, "Class after a change", version, size)
		}
	}
}

// P6.1: Class at plain sizes, at the named edges, and at what is no size.
func TestClassAtEdges(t *testing.T) {
	for _, x := range []struct{ n, wantOld, wantNew int }{
		{20, 1, 2}, {40, 2, 4}, {130, 8, 8}, {200, 10, 9}, {300, 12, 10}, {450, 15, 11},
		{0, 0, 0}, {1, 0, 0}, {8, 0, 0}, {9, 0, 1}, {511, 15, 11}, {512, 15, 11}, {513, -1, -1},
		{-1, -1, -1}, {-8, -1, -1}, {-512, -1, -1}, {514, -1, -1}, {1024, -1, -1},
		{1<<32 + 8, -1, -1}, {math.MinInt, -1, -1}, {math.MaxInt, -1, -1},
	} {
		class, ok := Class(VOld, x.n)
		wantClass(t, class, ok, x.wantOld, "Class", VOld, x.n)
		class, ok = Class(VNew, x.n)
		wantClass(t, class, ok, x.wantNew, "Class", VNew, x.n)
	}
}

// P6.1: Class of each class's size, of one below it and of one above it.
func TestClassAboutEachSize(t *testing.T) {
	for version, list := range wantSizes {
		for k, size := range list {
			next := k + 1
			if next == len(list) {
				next = -1
			}
			for _, x := range []struct{ n, want int }{{size - 1, k}, {size, k}, {size + 1, next}} {
				class, ok := Class(version, x.n)
				wantClass(t, class, ok, x.want, "Class", version, x.n)
			}
		}
	}
}

// P6.1: Class of every size, one after the other: it rises by one behind each class's size.
func TestClassStepByStep(t *testing.T) {
	for version, list := range wantSizes {
		want := 0
		for n := range 513 {
			if n > list[want] {
				want++
			}
			class, ok := Class(version, n)
			wantClass(t, class, ok, want, "Class", version, n)
		}
	}
}

// P6.1, P1: Class at any numbers, of any version.
func TestClassAnyNumbers(t *testing.T) {
	list := hostileInts()
	for _, version := range list {
		for _, n := range list {
			class, ok := Class(version, n)
			wantClass(t, class, ok, plainAligned(version, n, 1), "Class", version, n)
		}
	}
}

// P6.1: Size and Slots of each class of both layouts.
func TestSizeAndSlotsOfClasses(t *testing.T) {
	for version, list := range wantSizes {
		for class, size := range list {
			if got := Size(version, class); got != size {
				t.Errorf("Size(%d, %d): %d, want %d", version, class, got, size)
			}
			if got, want := Slots(version, class), wantSlots[version][class]; got != want || got != countedSlots(size) {
				t.Errorf("Slots(%d, %d): %d, want %d, counted %d", version, class, got, want, countedSlots(size))
			}
		}
	}
}

// P6.1: Size and Slots of -1, and of one class beyond the last; the layouts don't end at the same one.
func TestSizeAndSlotsBesideClasses(t *testing.T) {
	for _, x := range []struct{ version, class int }{{VOld, -1}, {VOld, 16}, {VNew, -1}, {VNew, 12}, {VNew, 13}, {VNew, 15}} {
		if Size(x.version, x.class) != 0 || Slots(x.version, x.class) != 0 {
			t.Errorf("layout %d, class %d: %d bytes, %d slots", x.version, x.class, Size(x.version, x.class), Slots(x.version, x.class))
		}
	}
}

// P6.1, P1: Size and Slots of what is no class, or of no layout: 0.
func TestSizeAndSlotsOfNone(t *testing.T) {
	for _, version := range append(noLayouts(), VOld, VNew) {
		for _, class := range append(hostileInts(), 1<<32+11, 1<<32+15) {
			if (version == VOld || version == VNew) && class >= 0 && class < len(wantSizes[version]) {
				continue
			}
			if Size(version, class) != 0 || Slots(version, class) != 0 {
				t.Errorf("layout %d, class %d: %d bytes, %d slots", version, class, Size(version, class), Slots(version, class))
			}
		}
	}
}

// P6.1: Aligned of the new layout: the own class is a multiple, a later one is, or none from there on.
func TestAlignedOfTheNewLayout(t *testing.T) {
	for _, x := range []struct{ n, align, want int }{
		{0, 1, 0}, {20, 1, 2}, {130, 1, 8}, {512, 1, 11}, {20, 2, 2}, {20, 4, 2}, {20, 8, 2}, {512, 8, 11},
		{0, 16, 1}, {8, 16, 1}, {9, 16, 1}, {17, 16, 3}, {24, 16, 3}, {33, 16, 4}, {48, 16, 4},
		{0, 32, 3}, {33, 32, 5}, {48, 32, 5}, {90, 32, 6}, {129, 32, 8},
		{0, 64, 5}, {65, 64, 7}, {96, 64, 7}, {129, 64, 8}, {192, 64, 8}, {257, 64, 10},
		{0, 128, 7}, {129, 128, 9}, {192, 128, 9}, {257, 128, 10}, {384, 128, 10}, {385, 128, 11},
		{0, 256, 9}, {256, 256, 9}, {257, 256, 11}, {384, 256, 11}, {512, 256, 11},
		{0, 512, 11}, {400, 512, 11}, {512, 512, 11},
		{0, 1024, -1}, {512, 1024, -1}, {1, 2048, -1}, {0, 4096, -1}, {512, 4096, -1}, {1, 8192, -1},
	} {
		class, ok := Aligned(VNew, x.n, x.align)
		wantClass(t, class, ok, x.want, "Aligned", VNew, x.n, x.align)
	}
}

// P6.1: Aligned of the old layout, at the same kinds of arguments.
func TestAlignedOfTheOldLayout(t *testing.T) {
	for _, x := range []struct{ n, align, want int }{
		{130, 64, 9}, {0, 1, 0}, {100, 8, 6}, {40, 16, 2}, {40, 32, 3}, {112, 32, 7}, {129, 128, 11},
		{257, 256, 15}, {0, 512, 15}, {0, 1024, -1}, {512, 2048, -1}, {1, 4096, -1}, {1, 8192, -1},
	} {
		class, ok := Aligned(VOld, x.n, x.align)
		wantClass(t, class, ok, x.want, "Aligned", VOld, x.n, x.align)
	}
}

// P6.1: wrong inputs: -1 and false, of both layouts and of none.
func TestAlignedOfWrongInputs(t *testing.T) {
	for _, version := range append(noLayouts(), VOld, VNew) {
		for _, x := range []struct{ n, align int }{
			{-1, 1}, {-8, 8}, {513, 1}, {513, 16}, {1024, 1024}, {4096, 4096}, {math.MinInt, 1}, {math.MaxInt, 1}, {1<<32 + 16, 16},
			{5, 0}, {0, 0}, {5, -1}, {5, -8}, {0, -16}, {5, math.MinInt}, {5, math.MaxInt}, {5, 1<<32 + 16},
			{5, 3}, {5, 5}, {5, 6}, {5, 12}, {24, 24}, {48, 48}, {96, 96}, {5, 4095}, {5, 4097}, {5, 6144}, {5, 8192}, {5, 1 << 40}, {5, 1 << 62},
			{-1, 0}, {513, 3}, {math.MinInt, math.MinInt}, {math.MaxInt, math.MaxInt},
		} {
			class, ok := Aligned(version, x.n, x.align)
			wantClass(t, class, ok, -1, "Aligned", version, x.n, x.align)
		}
	}
}

// P6.1: right sizes and alignments, but of no layout: -1 and false.
func TestClassAndAlignedOfNoLayout(t *testing.T) {
	for _, version := range noLayouts() {
		for _, n := range []int{0, 1, 8, 9, 130, 511, 512} {
			class, ok := Class(version, n)
			wantClass(t, class, ok, -1, "Class", version, n)
			for align := 1; align <= 4096; align *= 2 {
				class, ok = Aligned(version, n, align)
				wantClass(t, class, ok, -1, "Aligned", version, n, align)
			}
		}
	}
}

// P6.1: every size with every alignment up to beyond 8,192, powers and others.
func TestAlignedStepByStep(t *testing.T) {
	for version := -1; version <= 2; version++ {
		for n := -2; n <= 515; n++ {
			for align := -2; align <= 8194; align++ {
				class, ok := Aligned(version, n, align)
				if want := plainAligned(version, n, align); class != want || ok != (want >= 0) {
					t.Fatalf("Aligned(%d, %d, %d): %d, %v, want %d", version, n, align, class, ok, want)
				}
			}
		}
	}
}

// P6.1, P1: Aligned at all pairs of any numbers, of both layouts and of none.
func TestAlignedAnyNumbers(t *testing.T) {
	list := hostileInts()
	for _, version := range append(noLayouts(), VOld, VNew) {
		for _, n := range list {
			for _, align := range list {
				class, ok := Aligned(version, n, align)
				if want := plainAligned(version, n, align); class != want || ok != (want >= 0) {
					t.Fatalf("Aligned(%d, %d, %d): %d, %v, want %d", version, n, align, class, ok, want)
				}
			}
		}
	}
}

// P6.1: of the old layout all is just what layer 5 answers.
func TestOldLayoutIsLayer5(t *testing.T) {
	for _, n := range append(hostileInts(), wantSizes[VOld]...) {
		if Size(VOld, n) != tablea.Size(n) || Slots(VOld, n) != tablea.Slots(n) {
			t.Errorf("class %d: %d bytes, %d slots, of layer 5 %d, %d", n, Size(VOld, n), Slots(VOld, n), tablea.Size(n), tablea.Slots(n))
		}
		class, ok := Class(VOld, n)
		if class5, ok5 := tablea.Class(n); class != class5 || ok != ok5 {
			t.Errorf("Class(VOld, %d): %d, %v, of layer 5 %d, %v", n, class, ok, class5, ok5)
		}
		for _, align := range hostileInts() {
			class, ok := Aligned(VOld, n, align)
			if class5, ok5 := tablea.Aligned(n, align); class != class5 || ok != ok5 {
				t.Errorf("Aligned(VOld, %d, %d): %d, %v, of layer 5 %d, %v", n, align, class, ok, class5, ok5)
			}
		}
	}
}

// P6.2: Both of each size of either layout, of one below it and of one above it.
func TestBothAboutEachSize(t *testing.T) {
	for _, list := range wantSizes {
		for _, size := range list {
			for n := size - 1; n <= size+1; n++ {
				if Both(n) != slices.Contains(wantBoth, n) {
					t.Errorf("Both(%d): %v", n, Both(n))
				}
			}
		}
	}
}

// P6.2, P1: Both of 0, of all small numbers, and of any.
func TestBothOfAnyNumber(t *testing.T) {
	list := hostileInts()
	for n := -2; n <= 1100; n++ {
		list = append(list, n)
	}
	for _, n := range list {
		if Both(n) != slices.Contains(wantBoth, n) {
			t.Errorf("Both(%d): %v", n, Both(n))
		}
	}
}

// P6.2: Twin of each class of both layouts, there and back; it has just as many bytes.
func TestTwinThereAndBack(t *testing.T) {
	for version, twins := range wantTwins {
		for class, want := range twins {
			twin := Twin(version, class)
			if twin != want {
				t.Errorf("Twin(%d, %d): %d, want %d", version, class, twin, want)
			}
			if twin < 0 {
				continue
			}
			if back := Twin(1-version, twin); back != class || wantSizes[1-version][twin] != wantSizes[version][class] {
				t.Errorf("Twin(%d, %d): %d, and back %d", version, class, twin, back)
			}
		}
	}
}

// P6.2: a class has a twin where both layouts have its size, and only there.
func TestTwinIsWhereBothAre(t *testing.T) {
	for version, list := range wantSizes {
		for class, size := range list {
			if Both(size) != (Twin(version, class) >= 0) {
				t.Errorf("layout %d, class %d of %d bytes: both %v, twin %d", version, class, size, Both(size), Twin(version, class))
			}
		}
	}
}

// P6.2, P1: Twin of what is no class, or of no layout: -1.
func TestTwinOfNone(t *testing.T) {
	for _, version := range append(noLayouts(), VOld, VNew) {
		for _, class := range append(hostileInts(), 1<<32+9, 1<<32+15) {
			if (version == VOld || version == VNew) && class >= 0 && class < len(wantSizes[version]) {
				continue
			}
			if twin := Twin(version, class); twin != -1 {
				t.Errorf("Twin(%d, %d): %d", version, class, twin)
			}
		}
	}
}
