package pack

import (
	"math"
	"slices"
	"testing"
)

// hostileInts: places at which a width, a shift or a turn may go wrong.
func hostileInts() []int {
	return []int{math.MinInt, math.MinInt + 1, -1 << 32, -129, -128, -65, -64, -63, -2, -1, 0, 1, 2, 3, 7, 8, 31, 32, 33, 62, 63, 64, 65, 66, 127, 128, 256, 1 << 32, 1<<32 + 1, math.MaxInt - 63, math.MaxInt - 1, math.MaxInt}
}

// hostileWords: words with bits at the edges, and mixed ones.
func hostileWords() []uint64 {
	return []uint64{0, 1, 2, 3, 6, 127, 128, 200, 255, 256, 0x8000, 0xffff, 1<<31 - 1, 1 << 31, 1<<32 - 1, 1 << 32, 1<<62 - 1, 1 << 62, 1<<63 - 1, 1 << 63, 1<<63 + 1, math.MaxUint64 - 1, math.MaxUint64, 0x0123456789abcdef, 0xfedcba9876543210, 0xaaaaaaaaaaaaaaaa, 0x5555555555555555}
}

// bitsOf tells a word bit by bit, the lowest first: the tests' own view, made without the package's masks.
func bitsOf(word uint64) [64]bool {
	var row [64]bool
	for i := range row {
		row[i] = word%2 == 1
		word /= 2
	}
	return row
}

func wordOf(row [64]bool) uint64 {
	var word uint64
	for i := len(row) - 1; i >= 0; i-- {
		word *= 2
		if row[i] {
			word++
		}
	}
	return word
}

// plainRight follows the chapter's words; the numbers are small enough to be added.
func plainRight(f Field) bool {
	if f.Width < 1 || f.Width > 64 || f.Shift < 0 || f.Shift > 63 {
		return false
	}
	return f.Shift+f.Width <= 64
}

func plainGet(word uint64, f Field) uint64 {
	from := bitsOf(word)
	var to [64]bool
	for i := 0; i < f.Width; i++ {
		to[i] = from[f.Shift+i]
	}
	return wordOf(to)
}

func plainPut(word uint64, f Field, value uint64) uint64 {
	row, from := bitsOf(word), bitsOf(value)
	for i := 0; i < f.Width; i++ {
		row[f.Shift+i] = from[i]
	}
	return wordOf(row)
}

func plainCut(value uint64, width int, signed bool) uint64 {
	row := bitsOf(value)
	fill := signed && row[width-1]
	for i := width; i < 64; i++ {
		row[i] = fill
	}
	return wordOf(row)
}

// plainRotate turns by one place at a time, as often as is left of by.
func plainRotate(value uint64, width, by int) uint64 {
	row := bitsOf(value)
	for range (by%width + width) % width {
		last := row[width-1]
		for i := width - 1; i > 0; i-- {
			row[i] = row[i-1]
		}
		row[0] = last
	}
	return wordOf(row)
}

func hasAbove(value uint64, width int) bool {
	row := bitsOf(value)
	for i := width; i < 64; i++ {
		if row[i] {
			return true
		}
	}
	return false
}

func hostileFields() []Field {
	var list []Field
	for _, shift := range hostileInts() {
		for _, width := range hostileInts() {
			list = append(list, Field{shift, width})
		}
	}
	return list
}

// P1.1: Right.
func TestRight(t *testing.T) {
	for _, c := range []struct {
		f    Field
		want bool
	}{
		{Field{0, 1}, true},
		{Field{0, 64}, true},
		{Field{63, 1}, true},
		{Field{4, 8}, true},
		{Field{32, 32}, true},
		{Field{32, 33}, false},
		{Field{1, 63}, true},
		{Field{1, 64}, false},
		{Field{63, 2}, false},
		{Field{64, 0}, false},
		{Field{64, 1}, false},
		{Field{65, -1}, false},
		{Field{0, 0}, false},
		{Field{0, -1}, false},
		{Field{0, 65}, false},
		{Field{-1, 1}, false},
		{Field{-1, 65}, false},
		{Field{math.MaxInt, 1}, false},
		{Field{1, math.MaxInt}, false},
		{Field{math.MaxInt, math.MaxInt}, false},
		{Field{math.MinInt, math.MinInt}, false},
		{Field{math.MinInt, 64}, false},
		{Field{63, math.MinInt}, false},
	} {
		if got := Right(c.f); got != c.want {
			t.Errorf("Right(%v): %v, want %v", c.f, got, c.want)
		}
	}
	for shift := -2; shift < 68; shift++ {
		for width := -2; width < 68; width++ {
			f := Field{shift, width}
			if got := Right(f); got != plainRight(f) {
				t.Errorf("Right(%v): %v", f, got)
			}
		}
	}
}

// P1.1: Get.
func TestGet(t *testing.T) {
	for _, c := range []struct {
		word uint64
		f    Field
		want uint64
		ok   bool
	}{
		{0xabcdef, Field{8, 12}, 0xbcd, true},
		{4080, Field{4, 8}, 255, true},
		{math.MaxUint64, Field{0, 64}, math.MaxUint64, true},
		{1 << 63, Field{63, 1}, 1, true},
		{1<<63 - 1, Field{63, 1}, 0, true},
		{1, Field{0, 1}, 1, true},
		{math.MaxUint64, Field{63, 2}, 0, false},
		{math.MaxUint64, Field{0, 0}, 0, false},
		{math.MaxUint64, Field{-1, 8}, 0, false},
		{math.MaxUint64, Field{0, 65}, 0, false},
	} {
		if got, ok := Get(c.word, c.f); got != c.want || ok != c.ok {
			t.Errorf("Get(%x, %v): %x, %v, want %x, %v", c.word, c.f, got, ok, c.want, c.ok)
		}
	}
	for _, word := range hostileWords() {
		for _, f := range hostileFields() {
			var want uint64
			if plainRight(f) {
				want = plainGet(word, f)
			}
			if got, ok := Get(word, f); got != want || ok != plainRight(f) {
				t.Fatalf("Get(%x, %v): %x, %v, want %x", word, f, got, ok, want)
			}
		}
	}
}

// P1.1: Put.
func TestPut(t *testing.T) {
	for _, c := range []struct {
		word  uint64
		f     Field
		value uint64
		want  uint64
		ok    bool
	}{
		{0, Field{4, 8}, 255, 4080, true},
		{0, Field{4, 8}, 256, 0, false},
		{0xabcdef, Field{8, 12}, 0x123, 0xa123ef, true},
		{5, Field{0, 64}, math.MaxUint64, math.MaxUint64, true},
		{math.MaxUint64, Field{0, 64}, 0, 0, true},
		{math.MaxUint64, Field{63, 1}, 0, 1<<63 - 1, true},
		{0, Field{63, 1}, 1, 1 << 63, true},
		{0, Field{63, 1}, 2, 0, false},
		{7, Field{0, 1}, 0, 6, true},
		{7, Field{1, 63}, 1 << 63, 0, false},
		{7, Field{63, 2}, 0, 0, false},
		{7, Field{0, 0}, 0, 0, false},
		{7, Field{0, 65}, 0, 0, false},
		{7, Field{-1, 1}, 0, 0, false},
	} {
		if got, ok := Put(c.word, c.f, c.value); got != c.want || ok != c.ok {
			t.Errorf("Put(%x, %v, %x): %x, %v, want %x, %v", c.word, c.f, c.value, got, ok, c.want, c.ok)
		}
	}
	for _, f := range hostileFields() {
		for _, word := range hostileWords() {
			for _, value := range hostileWords() {
				var want uint64
				fine := plainRight(f) && !hasAbove(value, f.Width)
				if fine {
					want = plainPut(word, f, value)
				}
				if got, ok := Put(word, f, value); got != want || ok != fine {
					t.Fatalf("Put(%x, %v, %x): %x, %v, want %x, %v", word, f, value, got, ok, want, fine)
				}
			}
		}
	}
}

// P1.2: Signed.
func TestSigned(t *testing.T) {
	for _, c := range []struct {
		value uint64
		width int
		want  int64
		ok    bool
	}{
		{200, 8, -56, true},
		{127, 8, 127, true},
		{0x1ff, 8, -1, true},
		{0x17f, 8, 127, true},
		{1, 1, -1, true},
		{2, 1, 0, true},
		{1 << 63, 64, math.MinInt64, true},
		{1<<63 - 1, 64, math.MaxInt64, true},
		{math.MaxUint64, 64, -1, true},
		{1 << 62, 63, -1 << 62, true},
		{1 << 63, 63, 0, true},
		{1, 0, 0, false},
		{1, -1, 0, false},
		{1, 65, 0, false},
		{1, math.MinInt, 0, false},
		{1, math.MaxInt, 0, false},
	} {
		if got, ok := Signed(c.value, c.width); got != c.want || ok != c.ok {
			t.Errorf("Signed(%x, %d): %d, %v, want %d, %v", c.value, c.width, got, ok, c.want, c.ok)
		}
	}
}

// P1.2: Unsigned.
func TestUnsigned(t *testing.T) {
	for _, c := range []struct {
		value int64
		width int
		want  uint64
		ok    bool
	}{
		{-56, 8, 200, true},
		{200, 8, 200, true},
		{256, 8, 0, true},
		{-1, 1, 1, true},
		{-2, 1, 0, true},
		{-1, 64, math.MaxUint64, true},
		{math.MinInt64, 64, 1 << 63, true},
		{math.MinInt64, 63, 0, true},
		{math.MaxInt64, 63, 1<<63 - 1, true},
		{1, 0, 0, false},
		{1, -1, 0, false},
		{1, 65, 0, false},
		{1, math.MinInt, 0, false},
		{1, math.MaxInt, 0, false},
	} {
		if got, ok := Unsigned(c.value, c.width); got != c.want || ok != c.ok {
			t.Errorf("Unsigned(%d, %d): %x, %v, want %x, %v", c.value, c.width, got, ok, c.want, c.ok)
		}
	}
}

// P1.2: Fits.
func TestFits(t *testing.T) {
	for _, c := range []struct {
		value  int64
		width  int
		signed bool
		want   bool
	}{
		{127, 8, true, true},
		{128, 8, true, false},
		{-128, 8, true, true},
		{-129, 8, true, false},
		{0, 1, true, true},
		{-1, 1, true, true},
		{1, 1, true, false},
		{-2, 1, true, false},
		{math.MinInt64, 64, true, true},
		{math.MaxInt64, 64, true, true},
		{math.MinInt64, 63, true, false},
		{math.MaxInt64, 63, true, false},
		{-1 << 62, 63, true, true},
		{0, 1, false, true},
		{1, 1, false, true},
		{2, 1, false, false},
		{255, 8, false, true},
		{256, 8, false, false},
		{-1, 8, false, false},
		{-1, 63, false, false},
		{-1, 64, false, false},
		{math.MinInt64, 64, false, false},
		{math.MaxInt64, 64, false, true},
		{math.MaxInt64, 63, false, true},
		{math.MaxInt64, 62, false, false},
		{0, 0, true, false},
		{0, 0, false, false},
		{0, 65, true, false},
		{0, 65, false, false},
		{0, -1, true, false},
		{0, -1, false, false},
		{0, math.MinInt, true, false},
		{0, math.MaxInt, false, false},
	} {
		if got := Fits(c.value, c.width, c.signed); got != c.want {
			t.Errorf("Fits(%d, %d, %v): %v", c.value, c.width, c.signed, got)
		}
	}
}

// P1.2: at every width, held against the bits one by one.
func TestCutsBitByBit(t *testing.T) {
	for _, value := range hostileWords() {
		for width := -2; width < 68; width++ {
			var s int64
			var u uint64
			fine := width >= 1 && width <= 64
			if fine {
				s, u = int64(plainCut(value, width, true)), plainCut(value, width, false)
			}
			if got, ok := Signed(value, width); got != s || ok != fine {
				t.Errorf("Signed(%x, %d): %d, %v, want %d", value, width, got, ok, s)
			}
			if got, ok := Unsigned(int64(value), width); got != u || ok != fine {
				t.Errorf("Unsigned(%x, %d): %x, %v, want %x", value, width, got, ok, u)
			}
			n := int64(value)
			if got := Fits(n, width, true); got != (fine && s == n) {
				t.Errorf("Fits(%d, %d, true): %v", n, width, got)
			}
			if got := Fits(n, width, false); got != (fine && n >= 0 && u == value) {
				t.Errorf("Fits(%d, %d, false): %v", n, width, got)
			}
		}
	}
}

// P1.2: Rotate.
func TestRotate(t *testing.T) {
	for _, c := range []struct {
		value     uint64
		width, by int
		want      uint64
		ok        bool
	}{
		{6, 4, 0, 6, true},
		{6, 4, 1, 12, true},
		{6, 4, 2, 9, true},
		{6, 4, 4, 6, true},
		{6, 4, 5, 12, true},
		{6, 4, -1, 3, true},
		{6, 4, -4, 6, true},
		{6, 4, -5, 3, true},
		{1, 1, 1, 1, true},
		{0, 1, -7, 0, true},
		{2, 1, 0, 0, false},
		{16, 4, 0, 0, false},
		{16, 4, 1, 0, false},
		{1 << 63, 63, 1, 0, false},
		{1, 64, 63, 1 << 63, true},
		{1, 64, 64, 1, true},
		{1, 64, 65, 2, true},
		{1, 64, -1, 1 << 63, true},
		{1 << 63, 64, 1, 1, true},
		{math.MaxUint64, 64, 17, math.MaxUint64, true},
		{1, 64, math.MinInt, 1, true},
		{1, 64, math.MaxInt, 1 << 63, true},
		{1, 3, math.MaxInt, 2, true},
		{1, 3, math.MinInt, 2, true},
		{0, 0, 1, 0, false},
		{0, -4, 1, 0, false},
		{0, 65, 1, 0, false},
		{0, math.MinInt, -1, 0, false},
		{0, math.MaxInt, -1, 0, false},
	} {
		if got, ok := Rotate(c.value, c.width, c.by); got != c.want || ok != c.ok {
			t.Errorf("Rotate(%x, %d, %d): %x, %v, want %x, %v", c.value, c.width, c.by, got, ok, c.want, c.ok)
		}
	}
	for _, value := range hostileWords() {
		for _, width := range hostileInts() {
			for _, by := range hostileInts() {
				var want uint64
				fine := width >= 1 && width <= 64 && !hasAbove(value, width)
				if fine {
					want = plainRotate(value, width, by)
				}
				if got, ok := Rotate(value, width, by); got != want || ok != fine {
					t.Fatalf("Rotate(%x, %d, %d): %x, %v, want %x, %v", value, width, by, got, ok, want, fine)
				}
			}
		}
	}
}

// oneBitFields: as many fields as a word can have.
func oneBitFields() []Field {
	var list []Field
	for i := range 64 {
		list = append(list, Field{63 - i, 1})
	}
	return list
}

// P1.3: Apart.
func TestApart(t *testing.T) {
	for i, c := range []struct {
		list []Field
		want bool
	}{
		{nil, true},
		{[]Field{}, true},
		{[]Field{{0, 64}}, true},
		{[]Field{{63, 1}, {0, 63}}, true},
		{[]Field{{63, 1}, {0, 64}}, false},
		{[]Field{{0, 1}, {0, 1}}, false},
		{[]Field{{0, 4}, {4, 4}, {8, 4}}, true},
		{[]Field{{0, 4}, {8, 4}, {3, 2}}, false},
		{[]Field{{8, 8}, {15, 1}}, false},
		{[]Field{{8, 8}, {16, 1}, {7, 1}}, true},
		{[]Field{{0, 8}, {2, 3}}, false},
		{[]Field{{2, 3}, {0, 8}}, false},
		{[]Field{{}}, false},
		{[]Field{{0, 4}, {8, 0}}, false},
		{[]Field{{0, 4}, {63, 2}}, false},
		{[]Field{{0, 4}, {64, 1}}, false},
		{[]Field{{-1, 1}, {0, 4}}, false},
		{[]Field{{math.MaxInt, math.MaxInt}}, false},
		{oneBitFields(), true},
		{append(oneBitFields(), Field{17, 1}), false},
	} {
		if got := Apart(c.list...); got != c.want {
			t.Errorf("%d: Apart(%v): %v", i, c.list, got)
		}
	}
	if !Apart() || !Apart(Field{0, 32}, Field{32, 32}) || Apart(Field{0, 33}, Field{32, 32}) {
		t.Error("fields that are handed in one by one")
	}
}

// P1.3: Apart holds two fields against each other as a count of bits does.
func TestApartBitByBit(t *testing.T) {
	edges := []int{-1, 0, 1, 2, 31, 32, 62, 63, 64, 65}
	var list []Field
	for _, shift := range edges {
		for _, width := range edges {
			list = append(list, Field{shift, width})
		}
	}
	for _, a := range list {
		for _, b := range list {
			want := plainRight(a) && plainRight(b)
			for bit := 0; bit < 64 && want; bit++ {
				inA := bit >= a.Shift && bit < a.Shift+a.Width
				inB := bit >= b.Shift && bit < b.Shift+b.Width
				want = !(inA && inB)
			}
			if got := Apart(a, b); got != want {
				t.Fatalf("Apart(%v, %v): %v", a, b, got)
			}
		}
	}
}

// P1.3: Pack.
func TestPack(t *testing.T) {
	three := []Field{{60, 4}, {0, 3}, {8, 8}}
	for i, c := range []struct {
		fields []Field
		values []uint64
		want   uint64
		ok     bool
	}{
		{three, []uint64{15, 5, 0xab}, 0xf00000000000ab05, true},
		{three, []uint64{0, 0, 0}, 0, true},
		{[]Field{{0, 64}}, []uint64{math.MaxUint64}, math.MaxUint64, true},
		{[]Field{{63, 1}}, []uint64{1}, 1 << 63, true},
		{nil, nil, 0, true},
		{nil, []uint64{}, 0, true},
		{[]Field{}, nil, 0, true},
		{nil, []uint64{0}, 0, false},
		{three, nil, 0, false},
		{three, []uint64{15, 5}, 0, false},
		{three, []uint64{15, 5, 0xab, 0}, 0, false},
		{three, []uint64{16, 5, 0xab}, 0, false},
		{three, []uint64{15, 8, 0xab}, 0, false},
		{three, []uint64{15, 5, 0x100}, 0, false},
		{three, []uint64{15, 5, math.MaxUint64}, 0, false},
		{[]Field{{0, 4}, {3, 4}}, []uint64{0, 0}, 0, false},
		{[]Field{{0, 4}, {0, 4}}, []uint64{1, 1}, 0, false},
		{[]Field{{}}, []uint64{0}, 0, false},
		{[]Field{{63, 2}}, []uint64{0}, 0, false},
		{[]Field{{0, 4}, {-1, 1}}, []uint64{1, 0}, 0, false},
	} {
		if got, ok := Pack(c.fields, c.values); got != c.want || ok != c.ok {
			t.Errorf("%d: Pack(%v, %v): %x, %v, want %x, %v", i, c.fields, c.values, got, ok, c.want, c.ok)
		}
	}
}

// P1.3: Unpack.
func TestUnpack(t *testing.T) {
	three := []Field{{60, 4}, {0, 3}, {8, 8}}
	for i, c := range []struct {
		word   uint64
		fields []Field
		want   []uint64
		ok     bool
	}{
		{0xf00000000000ab05, three, []uint64{15, 5, 0xab}, true},
		{0xf0ffffffffffabf5, three, []uint64{15, 5, 0xab}, true},
		{math.MaxUint64, []Field{{0, 64}}, []uint64{math.MaxUint64}, true},
		{1 << 63, []Field{{63, 1}, {0, 63}}, []uint64{1, 0}, true},
		{7, nil, nil, true},
		{7, []Field{}, nil, true},
		{7, []Field{{}}, nil, false},
		{7, []Field{{0, 2}, {1, 2}}, nil, false},
		{7, []Field{{0, 2}, {63, 2}}, nil, false},
		{7, []Field{{0, 2}, {64, 1}}, nil, false},
		{7, []Field{{-1, 2}}, nil, false},
	} {
		if got, ok := Unpack(c.word, c.fields); !slices.Equal(got, c.want) || ok != c.ok {
			t.Errorf("%d: Unpack(%x, %v): %v, %v, want %v, %v", i, c.word, c.fields, got, ok, c.want, c.ok)
		}
	}
}

// P1.3: what was packed comes back; what lies beside the fields isn't told.
func TestPackAndUnpackAreInverse(t *testing.T) {
	rows := [][]Field{{{0, 64}}, {{63, 1}, {0, 63}}, {{5, 7}, {40, 24}, {0, 5}, {20, 1}}, oneBitFields()}
	for _, fields := range rows {
		for _, word := range hostileWords() {
			values, ok := Unpack(word, fields)
			if !ok || len(values) != len(fields) {
				t.Fatalf("Unpack(%x, %v): %v, %v", word, fields, values, ok)
			}
			var want uint64
			for i, f := range fields {
				if values[i] != plainGet(word, f) {
					t.Fatalf("Unpack(%x, %v): %v", word, fields, values)
				}
				want = plainPut(want, f, values[i])
			}
			if got, ok := Pack(fields, values); !ok || got != want {
				t.Fatalf("Pack(%v, %v): %x, %v, want %x", fields, values, got, ok, want)
			}
		}
	}
}

// Rule 4: what is handed in, and what lies behind its length, stays; what is answered is new.
func TestListsStayAsTheyWere(t *testing.T) {
	allFields := []Field{{0, 8}, {8, 8}, {16, 8}, {1, 2}}
	allValues := []uint64{1, 2, 3, 4}
	fields, values := allFields[:2], allValues[:2]
	word, ok := Pack(fields, values)
	if !ok || word != 0x201 || !Apart(fields...) {
		t.Fatal(word, ok)
	}
	first, _ := Unpack(word, fields)
	second, _ := Unpack(word, fields)
	first[0] = 99
	if second[0] != 1 {
		t.Error("two answers share memory")
	}
	if !slices.Equal(allFields, []Field{{0, 8}, {8, 8}, {16, 8}, {1, 2}}) || !slices.Equal(allValues, []uint64{1, 2, 3, 4}) {
		t.Error(allFields, allValues)
	}
}

// P1: no call panics at any pair of fields with any words, however the numbers lie.
func TestNoCallPanics(t *testing.T) {
	fields := append(hostileFields(), Field{}, Field{4, 8})
	for i, f := range fields {
		g := fields[(i*7+3)%len(fields)]
		for _, word := range hostileWords() {
			packed, ok := Pack([]Field{f, g}, []uint64{word, word})
			fine := Apart(f, g) && !hasAbove(word, f.Width) && !hasAbove(word, g.Width)
			if ok != fine || !ok && packed != 0 {
				t.Fatalf("Pack(%v, %v, %x): %x, %v", f, g, word, packed, ok)
			}
			values, ok := Unpack(word, []Field{f, g})
			if ok != Apart(f, g) || !ok && len(values) != 0 {
				t.Fatalf("Unpack(%x, %v, %v): %v, %v", word, f, g, values, ok)
			}
		}
	}
}
