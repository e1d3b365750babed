package cells

import (
	"bytes"
	"math"
	"slices"
	"testing"

	"underpin/api"
)

const most = 1_048_576

// hostileInts: places at which an address, a width or a count may go wrong.
func hostileInts() []int {
	return []int{math.MinInt, math.MinInt + 1, math.MinInt + 8, -1 << 32, -most, -16, -8, -4, -2, -1, 0, 1, 2, 3, 4, 5, 6, 7, 8, 9, 12, 15, 16, 17, 32, 63, 64, 65, most - 1, most, most + 1, 1 << 32, 1<<32 + 1, 1<<32 + 8, math.MaxInt - 16, math.MaxInt - 8, math.MaxInt - 7, math.MaxInt - 1, math.MaxInt}
}

func hostileWords() []uint64 {
	return []uint64{0, 1, 255, 256, 258, 0x8000, 0xffff, 0x10000, 1<<31 - 1, 1 << 31, 1<<32 - 1, 1 << 32, 1<<63 - 1, 1 << 63, math.MaxUint64 - 1, math.MaxUint64, 0x1122334455667788, 0xfedcba9876543210}
}

func begin(t *testing.T, n int) *Cells {
	t.Helper()
	c, e := New(n)
	if e != api.OK || c == nil {
		t.Fatalf("New(%d): %v", n, e)
	}
	return c
}

// marked: a memory in which neighbours' bytes are unlike, and none is nought.
func marked(t *testing.T, n int) *Cells {
	t.Helper()
	c := begin(t, n)
	if e := c.Write(0, marks(n)); e != api.OK {
		t.Fatal(e)
	}
	return c
}

func marks(n int) []byte {
	b := make([]byte, n)
	for i := range b {
		b[i] = byte(i%251 + 1)
	}
	return b
}

// all: every byte of a memory, one by one.
func all(t *testing.T, c *Cells) []byte {
	t.Helper()
	var b []byte
	for at := range c.Len() {
		v, e := c.Load(at, 1)
		if e != api.OK || v > 255 {
			t.Fatalf("Load(%d, 1): %d, %v", at, v, e)
		}
		b = append(b, byte(v))
	}
	return b
}

func wantAll(t *testing.T, what string, c *Cells, want []byte) {
	t.Helper()
	if got := all(t, c); !bytes.Equal(got, want) {
		t.Fatalf("%s: the memory is %v, want %v", what, got, want)
	}
}

// plainHas follows the chapter's words, without a sum: an address of n bytes among so many.
func plainHas(length, at, n int) bool {
	if at < 0 || at > length || n < 0 || n > length {
		return false
	}
	return at+n <= length
}

func plainWidth(w int) bool { return slices.Contains([]int{1, 2, 4, 8}, w) }

// plainLoad reckons to the base 256, the highest byte first.
func plainLoad(b []byte, at, w int) uint64 {
	var v uint64
	for i := at + w - 1; i >= at; i-- {
		v = v*256 + uint64(b[i])
	}
	return v
}

func plainStore(b []byte, at, w int, v uint64) {
	for i := at; i < at+w; i++ {
		b[i] = byte(v % 256)
		v /= 256
	}
}

func errnoOf(fine bool) api.Errno {
	if fine {
		return api.OK
	}
	return api.ErrRange
}

// P2.1, P2.2: New and Len.
func TestNew(t *testing.T) {
	for _, n := range hostileInts() {
		fine := n >= 0 && n <= most
		c, e := New(n)
		if e != errnoOf(fine) || (c != nil) != fine {
			t.Errorf("New(%d): %v, %v", n, c != nil, e)
		}
		if fine && c.Len() != n {
			t.Errorf("New(%d): Len %d", n, c.Len())
		}
	}
	for _, n := range []int{0, 1, 7, 300, most} {
		b, e := begin(t, n).Read(0, n)
		if e != api.OK || !bytes.Equal(b, make([]byte, n)) {
			t.Errorf("New(%d): not all noughts at first", n)
		}
	}
}

// P2.1: the chapter's example.
func TestStoreOfTheChapter(t *testing.T) {
	c := marked(t, 8)
	if e := c.Store(2, 4, 258); e != api.OK {
		t.Fatal(e)
	}
	wantAll(t, "Store(2, 4, 258)", c, []byte{1, 2, 2, 1, 0, 0, 7, 8})
}

// P2.1: Load and Store at plain inputs and at the named edges.
func TestLoadAndStore(t *testing.T) {
	for _, x := range []struct {
		length, at, w int
		v, want       uint64
		e             api.Errno
	}{
		{16, 0, 1, 0x1ff, 0xff, api.OK},
		{16, 15, 1, 7, 7, api.OK},
		{16, 14, 2, 0x12345, 0x2345, api.OK},
		{16, 3, 4, 0x1122334455667788, 0x55667788, api.OK},
		{16, 12, 4, math.MaxUint64, 1<<32 - 1, api.OK},
		{16, 8, 8, math.MaxUint64, math.MaxUint64, api.OK},
		{16, 5, 8, 1 << 63, 1 << 63, api.OK},
		{most, most - 8, 8, 0x1122334455667788, 0x1122334455667788, api.OK},
		{most, most - 7, 8, 1, 0, api.ErrRange},
		{most, most, 1, 1, 0, api.ErrRange},
		{16, 16, 1, 1, 0, api.ErrRange},
		{16, 15, 2, 1, 0, api.ErrRange},
		{16, 13, 4, 1, 0, api.ErrRange},
		{16, 9, 8, 1, 0, api.ErrRange},
		{16, -1, 1, 1, 0, api.ErrRange},
		{16, 0, 0, 1, 0, api.ErrRange},
		{16, 0, 3, 1, 0, api.ErrRange},
		{16, 0, 5, 1, 0, api.ErrRange},
		{16, 0, 6, 1, 0, api.ErrRange},
		{16, 0, 7, 1, 0, api.ErrRange},
		{16, 0, 9, 1, 0, api.ErrRange},
		{16, 0, 16, 1, 0, api.ErrRange},
		{16, 4, -4, 1, 0, api.ErrRange},
		{16, 16, 0, 1, 0, api.ErrRange},
		{0, 0, 1, 1, 0, api.ErrRange},
		{0, 0, 0, 1, 0, api.ErrRange},
		{1, 0, 2, 1, 0, api.ErrRange},
		{16, math.MaxInt, 1, 1, 0, api.ErrRange},
		{16, math.MaxInt - 7, 8, 1, 0, api.ErrRange},
		{16, math.MinInt, 8, 1, 0, api.ErrRange},
	} {
		c := begin(t, x.length)
		if e := c.Store(x.at, x.w, x.v); e != x.e {
			t.Errorf("%d bytes: Store(%d, %d, %x): %v, want %v", x.length, x.at, x.w, x.v, e, x.e)
		}
		if v, e := c.Load(x.at, x.w); v != x.want || e != x.e {
			t.Errorf("%d bytes: Load(%d, %d): %x, %v, want %x, %v", x.length, x.at, x.w, v, e, x.want, x.e)
		}
	}
}

// P2.1, P2.3: Load and Store at all mixes of addresses and widths, held against a reckoning.
func TestLoadAndStoreByteByByte(t *testing.T) {
	for _, length := range []int{0, 1, 2, 3, 4, 7, 8, 9, 16} {
		for _, at := range hostileInts() {
			for _, w := range hostileInts() {
				for _, v := range hostileWords() {
					oneStore(t, length, at, w, v)
				}
			}
		}
	}
}

func oneStore(t *testing.T, length, at, w int, v uint64) {
	t.Helper()
	c, want := marked(t, length), marks(length)
	fine := plainWidth(w) && plainHas(length, at, w)
	var before, after uint64
	if fine {
		before = plainLoad(want, at, w)
		plainStore(want, at, w, v)
		after = plainLoad(want, at, w)
	}
	if got, e := c.Load(at, w); got != before || e != errnoOf(fine) {
		t.Fatalf("%d bytes: Load(%d, %d): %x, %v, want %x", length, at, w, got, e, before)
	}
	if e := c.Store(at, w, v); e != errnoOf(fine) {
		t.Fatalf("%d bytes: Store(%d, %d, %x): %v", length, at, w, v, e)
	}
	if got, e := c.Load(at, w); got != after || e != errnoOf(fine) {
		t.Fatalf("%d bytes: Load(%d, %d): %x, %v, want %x", length, at, w, got, e, after)
	}
	if got, e := c.Read(0, length); e != api.OK || !bytes.Equal(got, want) {
		t.Fatalf("%d bytes: Store(%d, %d, %x): the memory is %v, want %v", length, at, w, v, got, want)
	}
}

// P2.1: Read, Write and Fill at the named edges.
func TestRowsAtEdges(t *testing.T) {
	for _, length := range []int{0, 1, 5, most} {
		c := marked(t, length)
		for _, x := range []struct {
			at, n int
			fine  bool
		}{
			{0, 0, true},
			{length, 0, true},
			{length / 2, 0, true},
			{0, length, true},
			{length - 1, 1, length > 0},
			{-1, 0, false},
			{length + 1, 0, false},
			{length, 1, false},
			{length - 1, 2, false},
			{0, length + 1, false},
			{1, length, false},
			{-1, 1, false},
			{-1, 2, false},
			{0, -1, false},
			{length, -1, false},
			{math.MaxInt, 0, false},
			{math.MaxInt, 1, false},
			{1, math.MaxInt, false},
			{math.MaxInt, math.MaxInt, false},
			{math.MinInt, math.MinInt, false},
			{math.MinInt, 0, false},
			{0, math.MinInt, false},
		} {
			b, e := c.Read(x.at, x.n)
			if e != errnoOf(x.fine) || !x.fine && len(b) != 0 || x.fine && !bytes.Equal(b, marks(length)[x.at:x.at+x.n]) {
				t.Errorf("%d bytes: Read(%d, %d): %d bytes, %v", length, x.at, x.n, len(b), e)
			}
			if e := c.Fill(x.at, x.n, 255); e != errnoOf(x.fine) {
				t.Errorf("%d bytes: Fill(%d, %d): %v", length, x.at, x.n, e)
			}
			if x.n >= 0 && x.n <= most+1 {
				if e := c.Write(x.at, marks(x.n)); e != errnoOf(x.fine) {
					t.Errorf("%d bytes: Write(%d, %d bytes): %v", length, x.at, x.n, e)
				}
			}
			if e := c.Write(0, marks(length)); e != api.OK {
				t.Fatal(e)
			}
		}
	}
}

// P2.1, P2.3: Read, Write and Fill at all mixes, held against a list of bytes.
func TestRowsByteByByte(t *testing.T) {
	for length := range 18 {
		for _, at := range hostileInts() {
			for _, n := range hostileInts() {
				oneRow(t, length, at, n)
			}
		}
	}
}

func oneRow(t *testing.T, length, at, n int) {
	t.Helper()
	fine := plainHas(length, at, n)
	was := marks(length)
	c := marked(t, length)
	var part []byte
	if fine {
		part = was[at : at+n]
	}
	if b, e := c.Read(at, n); e != errnoOf(fine) || !bytes.Equal(b, part) {
		t.Fatalf("%d bytes: Read(%d, %d): %v, %v", length, at, n, b, e)
	}
	filled := slices.Clone(was)
	for i := range filled {
		if fine && i >= at && i < at+n {
			filled[i] = 200
		}
	}
	if e := c.Fill(at, n, 200); e != errnoOf(fine) {
		t.Fatalf("%d bytes: Fill(%d, %d): %v", length, at, n, e)
	}
	wantAll(t, "Fill", c, filled)
	if n < 0 || n > 100 {
		return
	}
	list := bytes.Repeat([]byte{77}, n)
	for i := range filled {
		if fine && i >= at && i < at+n {
			filled[i] = 77
		}
	}
	if e := c.Write(at, list); e != errnoOf(fine) {
		t.Fatalf("%d bytes: Write(%d, %d bytes): %v", length, at, n, e)
	}
	wantAll(t, "Write", c, filled)
}

// P2.1: no bytes are written as an empty list and as a nil one.
func TestWriteOfNoBytes(t *testing.T) {
	c := marked(t, 4)
	for _, b := range [][]byte{nil, {}} {
		for at := -2; at < 8; at++ {
			if e := c.Write(at, b); e != errnoOf(at >= 0 && at <= 4) {
				t.Errorf("Write(%d, no bytes): %v", at, e)
			}
		}
	}
	wantAll(t, "Write of no bytes", c, marks(4))
}

// P2.1: Move, rows that overlap too.
func TestMove(t *testing.T) {
	for _, x := range []struct {
		to, from, n int
		want        []byte
		e           api.Errno
	}{
		{2, 0, 4, []byte{1, 2, 1, 2, 3, 4, 7, 8}, api.OK},
		{0, 2, 4, []byte{3, 4, 5, 6, 5, 6, 7, 8}, api.OK},
		{1, 0, 7, []byte{1, 1, 2, 3, 4, 5, 6, 7}, api.OK},
		{0, 1, 7, []byte{2, 3, 4, 5, 6, 7, 8, 8}, api.OK},
		{4, 0, 4, []byte{1, 2, 3, 4, 1, 2, 3, 4}, api.OK},
		{0, 4, 4, []byte{5, 6, 7, 8, 5, 6, 7, 8}, api.OK},
		{3, 3, 5, []byte{1, 2, 3, 4, 5, 6, 7, 8}, api.OK},
		{0, 0, 8, []byte{1, 2, 3, 4, 5, 6, 7, 8}, api.OK},
		{8, 8, 0, []byte{1, 2, 3, 4, 5, 6, 7, 8}, api.OK},
		{8, 0, 0, []byte{1, 2, 3, 4, 5, 6, 7, 8}, api.OK},
		{9, 0, 0, []byte{1, 2, 3, 4, 5, 6, 7, 8}, api.ErrRange},
		{0, 9, 0, []byte{1, 2, 3, 4, 5, 6, 7, 8}, api.ErrRange},
		{-1, 0, 0, []byte{1, 2, 3, 4, 5, 6, 7, 8}, api.ErrRange},
		{0, -1, 0, []byte{1, 2, 3, 4, 5, 6, 7, 8}, api.ErrRange},
		{5, 0, 4, []byte{1, 2, 3, 4, 5, 6, 7, 8}, api.ErrRange},
		{0, 5, 4, []byte{1, 2, 3, 4, 5, 6, 7, 8}, api.ErrRange},
		{0, 0, -1, []byte{1, 2, 3, 4, 5, 6, 7, 8}, api.ErrRange},
		{4, 4, -1, []byte{1, 2, 3, 4, 5, 6, 7, 8}, api.ErrRange},
		{0, 0, 9, []byte{1, 2, 3, 4, 5, 6, 7, 8}, api.ErrRange},
		{0, math.MaxInt, 1, []byte{1, 2, 3, 4, 5, 6, 7, 8}, api.ErrRange},
		{math.MaxInt, 0, 1, []byte{1, 2, 3, 4, 5, 6, 7, 8}, api.ErrRange},
		{1, 1, math.MaxInt, []byte{1, 2, 3, 4, 5, 6, 7, 8}, api.ErrRange},
		{0, 0, math.MinInt, []byte{1, 2, 3, 4, 5, 6, 7, 8}, api.ErrRange},
	} {
		c := marked(t, 8)
		if e := c.Move(x.to, x.from, x.n); e != x.e {
			t.Errorf("Move(%d, %d, %d): %v, want %v", x.to, x.from, x.n, e, x.e)
		}
		wantAll(t, "Move", c, x.want)
	}
}

// P2.1, P2.3: Move at all mixes, held against bytes that are read first.
func TestMoveByteByByte(t *testing.T) {
	for _, length := range []int{0, 1, 9} {
		for _, to := range hostileInts() {
			for _, from := range hostileInts() {
				for _, n := range hostileInts() {
					fine := plainHas(length, to, n) && plainHas(length, from, n)
					want := marks(length)
					for i := 0; fine && i < n; i++ {
						want[to+i] = marks(length)[from+i]
					}
					c := marked(t, length)
					if e := c.Move(to, from, n); e != errnoOf(fine) {
						t.Fatalf("%d bytes: Move(%d, %d, %d): %v", length, to, from, n, e)
					}
					wantAll(t, "Move", c, want)
				}
			}
		}
	}
}

// P2.1: a great memory's rows move whole, in either direction.
func TestMoveOfAGreatMemory(t *testing.T) {
	for _, by := range []int{1, 255, 4096, most / 2} {
		c := marked(t, most)
		if e := c.Move(by, 0, most-by); e != api.OK {
			t.Fatal(e)
		}
		want := append(marks(most)[:by:by], marks(most)[:most-by]...)
		if b, e := c.Read(0, most); e != api.OK || !bytes.Equal(b, want) {
			t.Errorf("moved up by %d: %v", by, e)
		}
		c = marked(t, most)
		if e := c.Move(0, by, most-by); e != api.OK {
			t.Fatal(e)
		}
		want = append(marks(most)[by:], marks(most)[most-by:]...)
		if b, e := c.Read(0, most); e != api.OK || !bytes.Equal(b, want) {
			t.Errorf("moved down by %d: %v", by, e)
		}
	}
}

// P2.2: Clone.
func TestClone(t *testing.T) {
	for _, n := range []int{0, 1, 9, most} {
		c := marked(t, n)
		d := c.Clone()
		if b, e := d.Read(0, n); d == c || d.Len() != n || e != api.OK || !bytes.Equal(b, marks(n)) {
			t.Fatalf("Clone of %d bytes: %d bytes, %v", n, d.Len(), e)
		}
		if n == 0 {
			continue
		}
		if c.Store(0, 1, 200) != api.OK || d.Store(n-1, 1, 201) != api.OK {
			t.Fatal("Store")
		}
		first, last := marks(n), marks(n)
		first[0], last[n-1] = 200, 201
		if b, _ := c.Read(0, n); !bytes.Equal(b, first) {
			t.Errorf("%d bytes: what is stored in the clone is in the memory", n)
		}
		if b, _ := d.Read(0, n); !bytes.Equal(b, last) {
			t.Errorf("%d bytes: what is stored in the memory is in the clone", n)
		}
	}
}

func memoryOf(t *testing.T, b []byte) *Cells {
	t.Helper()
	c := begin(t, len(b))
	if e := c.Write(0, b); e != api.OK {
		t.Fatal(e)
	}
	return c
}

// P2.2: Differ.
func TestDiffer(t *testing.T) {
	for i, x := range []struct {
		a, b string
		want []Span
	}{
		{"", "", nil},
		{"abc", "abc", nil},
		{"abc", "xbc", []Span{{0, 1}}},
		{"abc", "axc", []Span{{1, 1}}},
		{"abc", "abx", []Span{{2, 1}}},
		{"abc", "xyz", []Span{{0, 3}}},
		{"abcdefgh", "xbcyzfgx", []Span{{0, 1}, {3, 2}, {7, 1}}},
		{"abc", "", []Span{{0, 3}}},
		{"abc", "a", []Span{{1, 2}}},
		{"abc", "ax", []Span{{1, 2}}},
		{"abc", "xb", []Span{{0, 1}, {2, 1}}},
		{"abc", "xy", []Span{{0, 3}}},
		{"ab\x00\x00", "ab", []Span{{2, 2}}},
		{"\x00", "", []Span{{0, 1}}},
	} {
		c, d := memoryOf(t, []byte(x.a)), memoryOf(t, []byte(x.b))
		if got := c.Differ(d); !slices.Equal(got, x.want) {
			t.Errorf("%d: Differ(%q, %q): %v, want %v", i, x.a, x.b, got, x.want)
		}
		if got := d.Differ(c); !slices.Equal(got, x.want) {
			t.Errorf("%d: Differ(%q, %q): %v, want %v", i, x.b, x.a, got, x.want)
		}
		wantAll(t, "Differ", c, []byte(x.a))
		wantAll(t, "Differ", d, []byte(x.b))
		if len(c.Differ(c)) != 0 || len(d.Differ(d)) != 0 {
			t.Errorf("%d: a memory is unlike itself", i)
		}
	}
}

// P2.2: Differ at all pairs of small memories: each unlike address is in one row, and no row could be longer.
func TestDifferAddressByAddress(t *testing.T) {
	var lists [][]byte
	for n := range 7 {
		for bits := range 1 << n {
			b := make([]byte, n)
			for i := range b {
				b[i] = byte(bits >> i & 1)
			}
			lists = append(lists, b)
		}
	}
	for _, a := range lists {
		for _, b := range lists {
			rows := memoryOf(t, a).Differ(memoryOf(t, b))
			var told [8]bool
			next := 0
			for _, r := range rows {
				if r.N < 1 || r.At < next || r.At+r.N > 6 {
					t.Fatalf("Differ(%v, %v): %v", a, b, rows)
				}
				for i := range r.N {
					told[r.At+i] = true
				}
				next = r.At + r.N + 1
			}
			for at := range told {
				hasA, hasB := at < len(a), at < len(b)
				want := hasA != hasB || hasA && hasB && a[at] != b[at]
				if told[at] != want {
					t.Fatalf("Differ(%v, %v): %v", a, b, rows)
				}
			}
		}
	}
}

// P2.2: Differ of great memories.
func TestDifferOfGreatMemories(t *testing.T) {
	c, d := marked(t, most), marked(t, most)
	if c.Fill(1000, 5000, 0) != api.OK || c.Store(most-1, 1, 0) != api.OK {
		t.Fatal("Fill, Store")
	}
	if got := c.Differ(d); !slices.Equal(got, []Span{{1000, 5000}, {most - 1, 1}}) {
		t.Error(got)
	}
	if got := c.Differ(begin(t, 0)); !slices.Equal(got, []Span{{0, most}}) {
		t.Error(got)
	}
}

// P2.3: a list that is handed in stays, with what lies behind its length, and isn't kept.
func TestWriteKeepsNothing(t *testing.T) {
	whole := []byte{9, 8, 7, 6, 5}
	c := marked(t, 4)
	if c.Write(1, whole[:3]) != api.OK || c.Write(2, whole[:3]) != api.ErrRange {
		t.Fatal("Write")
	}
	if !bytes.Equal(whole, []byte{9, 8, 7, 6, 5}) {
		t.Errorf("the list became %v", whole)
	}
	whole[0], whole[1] = 100, 101
	wantAll(t, "the list changed afterwards", c, []byte{1, 9, 8, 7})
	if c.Fill(0, 4, 3) != api.OK || !bytes.Equal(whole, []byte{100, 101, 7, 6, 5}) {
		t.Errorf("the list changed with the memory: %v", whole)
	}
}

// P2.3: what is answered is new memory, with its spare room.
func TestReadAnswersNewMemory(t *testing.T) {
	c := marked(t, 8)
	first, _ := c.Read(2, 3)
	second, _ := c.Read(2, 3)
	spoil(first[:cap(first)])
	if !bytes.Equal(second, []byte{3, 4, 5}) {
		t.Errorf("two answers share memory: %v", second)
	}
	wantAll(t, "the answer changed", c, marks(8))
	if c.Fill(0, 8, 0) != api.OK || !bytes.Equal(second, []byte{3, 4, 5}) {
		t.Errorf("the answer changed with the memory: %v", second)
	}
	none, _ := c.Read(3, 0)
	spoil(none[:cap(none)])
	wantAll(t, "the empty answer's room changed", c, make([]byte, 8))
	rows := c.Differ(marked(t, 8))
	rows[0] = Span{}
	if got := c.Differ(marked(t, 8)); !slices.Equal(got, []Span{{0, 8}}) {
		t.Errorf("two answers share memory: %v", got)
	}
}

func spoil(b []byte) {
	for i := range b {
		b[i] = 200
	}
}

// P2.3, P1: with an error nothing changes, and no call panics, at a memory of any length.
func TestErrorsChangeNothing(t *testing.T) {
	for _, length := range []int{0, 1, 64} {
		c := marked(t, length)
		for _, at := range hostileInts() {
			for _, n := range hostileInts() {
				if !plainHas(length, at, n) {
					if b, e := c.Read(at, n); len(b) != 0 || e != api.ErrRange {
						t.Fatalf("Read(%d, %d): %v, %v", at, n, b, e)
					}
					if e := c.Fill(at, n, 99); e != api.ErrRange {
						t.Fatalf("Fill(%d, %d): %v", at, n, e)
					}
					if c.Move(at, 0, n) != api.ErrRange || c.Move(0, at, n) != api.ErrRange || c.Move(at, at, n) != api.ErrRange {
						t.Fatalf("Move(%d, %d)", at, n)
					}
				}
				if !plainWidth(n) || !plainHas(length, at, n) {
					if v, e := c.Load(at, n); v != 0 || e != api.ErrRange {
						t.Fatalf("Load(%d, %d): %d, %v", at, n, v, e)
					}
					if e := c.Store(at, n, math.MaxUint64); e != api.ErrRange {
						t.Fatalf("Store(%d, %d): %v", at, n, e)
					}
				}
			}
		}
		wantAll(t, "errors", c, marks(length))
	}
}
