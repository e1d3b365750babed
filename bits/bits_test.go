package bits

import (
	"math"
	"slices"
	"testing"

	"underpin/api"
)

const most = 4096

// lengths: rows that end within a word, with it, and one bit behind it.
func lengths() []int {
	return []int{0, 1, 2, 63, 64, 65, 127, 128, 129, 191, 192, 193, 255, 256, 257, 300, 1000}
}

// hostile: numbers at which a bit, a length or a count may go wrong in a row of n bits.
func hostile(n int) []int {
	list := []int{math.MinInt, math.MinInt + 1, math.MinInt + 64, -1 << 32, -most, -65, -64, -63, -2, -1, 0, 1, 2, 62, 63, 64, 65, 127, 128, 129, 191, 192, 255, 256, 257, most - 1, most, most + 1, 1 << 32, 1<<32 + 1, math.MaxInt - most, math.MaxInt - 64, math.MaxInt - 63, math.MaxInt - 1, math.MaxInt}
	for d := -2; d <= 2; d++ {
		list = append(list, n+d, n/2+d, math.MaxInt-n+d, math.MinInt+n+2+d)
	}
	return list
}

// patterns: rows of n bits, some by hand, some by a rule without order to be seen.
func patterns(n int) [][]bool {
	rules := []func(k int) bool{
		func(int) bool { return false },
		func(int) bool { return true },
		func(k int) bool { return k == 0 },
		func(k int) bool { return k == n-1 },
		func(k int) bool { return k != 0 },
		func(k int) bool { return k != n-1 },
		func(k int) bool { return k%2 == 0 },
		func(k int) bool { return k%64 == 63 },
		func(k int) bool { return k%64 == 0 },
		func(k int) bool { return k%64 != 63 },
		func(k int) bool { return k%64 != 0 },
		func(k int) bool { return k/64%2 == 1 },
		func(k int) bool { return k/64%2 == 0 },
		func(k int) bool { return k < n/2 },
		func(k int) bool { return k >= n/2 },
		func(k int) bool { return k%71 == 70 },
		func(k int) bool { return uint32(k+1)*2654435761>>29 == 0 },
		func(k int) bool { return uint32(k+1)*2654435761>>31 == 0 },
		func(k int) bool { return uint32(k+1)*2654435761>>29 != 0 },
	}
	var list [][]bool
	for _, rule := range rules {
		row := make([]bool, n)
		for k := range row {
			row[k] = rule(k)
		}
		list = append(list, row)
	}
	return list
}

func begin(t *testing.T, n int, set ...int) *Row {
	t.Helper()
	r, e := New(n)
	if e != api.OK || r == nil {
		t.Fatalf("New(%d): %v", n, e)
	}
	for _, k := range set {
		if !r.Set(k) {
			t.Fatalf("%d bits: Set(%d): false", n, k)
		}
	}
	return r
}

// rowOf: a row in which those bits are set that are so in a list.
func rowOf(t *testing.T, want []bool) *Row {
	t.Helper()
	r := begin(t, len(want))
	for k, set := range want {
		if set {
			r.Set(k)
		}
	}
	return r
}

// wantRow holds a row against a list, bit by bit.
func wantRow(t *testing.T, what string, r *Row, want []bool) {
	t.Helper()
	if r.Len() != len(want) {
		t.Fatalf("%s: Len %d, want %d", what, r.Len(), len(want))
	}
	for k, set := range want {
		if r.Test(k) != set {
			t.Fatalf("%s: Test(%d): %v", what, k, !set)
		}
	}
	if r.Count() != len(plainList(want)) {
		t.Fatalf("%s: Count %d, want %d", what, r.Count(), len(plainList(want)))
	}
}

func plainTest(row []bool, k int) bool { return k >= 0 && k < len(row) && row[k] }

func plainList(row []bool) []int {
	var list []int
	for k, set := range row {
		if set {
			list = append(list, k)
		}
	}
	return list
}

func plainFirst(row []bool, from int, set bool) int {
	for k, is := range row {
		if k >= from && is == set {
			return k
		}
	}
	return -1
}

func plainNth(row []bool, n int) int {
	for k, set := range row {
		if set && n == 0 {
			return k
		}
		if set {
			n--
		}
	}
	return -1
}

func plainRun(row []bool, from, n int) int {
	for k := range row {
		if k < from || n < 1 || n > len(row) || k+n > len(row) {
			continue
		}
		if !slices.Contains(row[k:k+n], true) {
			return k
		}
	}
	return -1
}

// plainWords sums up powers of two, each by doubling.
func plainWords(row []bool) []uint64 {
	var words []uint64
	power := uint64(1)
	for k, set := range row {
		if k%64 == 0 {
			words, power = append(words, 0), 1
		}
		if set {
			words[len(words)-1] += power
		}
		power += power
	}
	return words
}

func plainKey(row []bool) Key {
	words := append(plainWords(row), 0, 0, 0, 0)
	return Key{words[0], words[1], words[2], words[3]}
}

// P3.1: New and Len.
func TestNew(t *testing.T) {
	for _, n := range append(hostile(most), lengths()...) {
		r, e := New(n)
		if n < 0 || n > most {
			if r != nil || e != api.ErrRange {
				t.Errorf("New(%d): %v, %v", n, r != nil, e)
			}
			continue
		}
		if r == nil || e != api.OK {
			t.Fatalf("New(%d): %v, %v", n, r != nil, e)
		}
		wantRow(t, "New", r, make([]bool, n))
	}
}

// P3.1: each bit is set and cleared, and no other one.
func TestSetAndClear(t *testing.T) {
	for _, n := range append(lengths(), most) {
		r := begin(t, n)
		for k := range n {
			if r.Test(k) || !r.Set(k) || !r.Test(k) || r.Set(k) || !r.Test(k) || r.Count() != k+1 {
				t.Fatalf("%d bits: bit %d isn't set once", n, k)
			}
		}
		for k := range n {
			if !r.Test(k) || !r.Clear(k) || r.Test(k) || r.Clear(k) || r.Test(k) || r.Count() != n-1-k {
				t.Fatalf("%d bits: bit %d isn't cleared once", n, k)
			}
		}
	}
}

// P3.1: one bit alone, at the ends of words and of the row.
func TestOneBit(t *testing.T) {
	for _, n := range append(lengths(), most) {
		for _, k := range hostile(n) {
			if k < 0 || k >= n {
				continue
			}
			want := make([]bool, n)
			want[k] = true
			wantRow(t, "one bit", begin(t, n, k), want)
			full := patterns(n)[1]
			r := rowOf(t, full)
			full[k] = false
			if !r.Clear(k) {
				t.Fatalf("%d bits: Clear(%d): false", n, k)
			}
			wantRow(t, "all but one bit", r, full)
		}
	}
}

// P3.1, P1: Set, Clear and Test at any numbers; what isn't there changes nothing.
func TestBitsThatAreNone(t *testing.T) {
	for _, n := range append(lengths(), most) {
		for _, want := range patterns(n)[:4] {
			for _, k := range hostile(n) {
				r := rowOf(t, want)
				there, was := k >= 0 && k < n, plainTest(want, k)
				if got := r.Test(k); got != was {
					t.Fatalf("%d bits: Test(%d): %v", n, k, got)
				}
				if got := r.Set(k); got != (there && !was) || r.Test(k) != there {
					t.Fatalf("%d bits: Set(%d): %v", n, k, got)
				}
				if got := r.Clear(k); got != there || r.Test(k) {
					t.Fatalf("%d bits: Clear(%d): %v", n, k, got)
				}
				if got := r.Clear(k); got {
					t.Fatalf("%d bits: Clear(%d) twice: %v", n, k, got)
				}
				if there {
					continue
				}
				wantRow(t, "no such bit", r, want)
				if words := r.Words(); !slices.Equal(words, plainWords(want)) {
					t.Fatalf("%d bits: Set(%d): Words %x", n, k, words)
				}
			}
		}
	}
}

// P3.1: a row whose bits come and go, held against a list.
func TestComeAndGo(t *testing.T) {
	for _, n := range []int{1, 63, 64, 65, 256, most} {
		r, want := begin(t, n), make([]bool, n)
		state := uint32(n)
		for range 3000 {
			state = state*1664525 + 1013904223
			k, set := int(state>>8)%(n+2)-1, state>>7&1 == 1
			there := k >= 0 && k < n
			change := there && want[k] != set
			got := false
			if set {
				got = r.Set(k)
			} else {
				got = r.Clear(k)
			}
			if got != change {
				t.Fatalf("%d bits: bit %d to %v: %v", n, k, set, got)
			}
			if there {
				want[k] = set
			}
		}
		wantRow(t, "come and go", r, want)
		if list := r.List(); !slices.Equal(list, plainList(want)) {
			t.Fatalf("%d bits: List %v", n, list)
		}
	}
}

// P3.2: First, Nth and Run at plain inputs and at the named edges.
func TestFindAtEdges(t *testing.T) {
	r := begin(t, 200, 0, 63, 64, 130, 199)
	for _, x := range []struct {
		from int
		set  bool
		want int
	}{
		{0, true, 0}, {-1, true, 0}, {math.MinInt, true, 0}, {1, true, 63}, {63, true, 63}, {64, true, 64}, {65, true, 130}, {131, true, 199}, {199, true, 199}, {200, true, -1}, {201, true, -1}, {math.MaxInt, true, -1},
		{0, false, 1}, {-1, false, 1}, {math.MinInt, false, 1}, {62, false, 62}, {63, false, 65}, {64, false, 65}, {130, false, 131}, {198, false, 198}, {199, false, -1}, {200, false, -1}, {math.MaxInt, false, -1},
	} {
		if k := r.First(x.from, x.set); k != x.want {
			t.Errorf("First(%d, %v): %d, want %d", x.from, x.set, k, x.want)
		}
	}
	for _, x := range []struct{ n, want int }{
		{0, 0}, {1, 63}, {2, 64}, {3, 130}, {4, 199}, {5, -1}, {6, -1}, {-1, -1}, {math.MinInt, -1}, {math.MaxInt, -1},
	} {
		if k := r.Nth(x.n); k != x.want {
			t.Errorf("Nth(%d): %d, want %d", x.n, k, x.want)
		}
	}
	for _, x := range []struct{ from, n, want int }{
		{0, 1, 1}, {0, 62, 1}, {0, 63, 65}, {2, 62, 65}, {0, 65, 65}, {0, 66, 131}, {66, 65, 131}, {0, 68, 131}, {0, 69, -1}, {132, 67, 132}, {132, 68, -1}, {198, 1, 198}, {198, 2, -1}, {199, 1, -1}, {200, 1, -1}, {math.MaxInt, 1, -1}, {-7, 1, 1}, {math.MinInt, 62, 1},
		{0, 0, -1}, {0, -1, -1}, {0, math.MinInt, -1}, {0, 200, -1}, {0, 201, -1}, {0, math.MaxInt, -1}, {1, math.MaxInt, -1}, {math.MaxInt, math.MaxInt, -1}, {150, math.MaxInt - 100, -1},
	} {
		if k := r.Run(x.from, x.n); k != x.want {
			t.Errorf("Run(%d, %d): %d, want %d", x.from, x.n, k, x.want)
		}
	}
}

// P3.2: a run that ends with the row, and one that is longer than the row.
func TestRunOfTheWholeRow(t *testing.T) {
	for _, n := range append(lengths(), most) {
		r := begin(t, n)
		for _, from := range []int{math.MinInt, -1, 0, 1, n / 2, n - 1, n, n + 1} {
			room := n - max(from, 0)
			if room > 0 && r.Run(from, room) != max(from, 0) {
				t.Errorf("%d bits: Run(%d, %d): %d", n, from, room, r.Run(from, room))
			}
			if k := r.Run(from, room+1); k != -1 {
				t.Errorf("%d bits: Run(%d, %d): %d", n, from, room+1, k)
			}
		}
	}
}

// P3.2, P1: First, Nth, Run and List at all mixes, held against a list that is gone through.
func TestFindBitByBit(t *testing.T) {
	for _, n := range lengths() {
		for _, want := range patterns(n) {
			r := rowOf(t, want)
			for _, a := range append(hostile(n), plainList(want)...) {
				oneFind(t, r, want, a)
			}
			if list := r.List(); !slices.Equal(list, plainList(want)) {
				t.Fatalf("%d bits: List %v", n, list)
			}
			wantRow(t, "after all calls", r, want)
		}
	}
}

func oneFind(t *testing.T, r *Row, want []bool, a int) {
	t.Helper()
	for _, set := range []bool{false, true} {
		if k := r.First(a, set); k != plainFirst(want, a, set) {
			t.Fatalf("%d bits: First(%d, %v): %d, want %d", len(want), a, set, k, plainFirst(want, a, set))
		}
	}
	if k := r.Nth(a); k != plainNth(want, a) {
		t.Fatalf("%d bits: Nth(%d): %d, want %d", len(want), a, k, plainNth(want, a))
	}
	for _, n := range append([]int{3, 31, 61, 66, 70, 71}, hostile(len(want))...) {
		if k := r.Run(a, n); k != plainRun(want, a, n) {
			t.Fatalf("%d bits: Run(%d, %d): %d, want %d", len(want), a, n, k, plainRun(want, a, n))
		}
	}
}

// P3.2: a row of 4,096 bits.
func TestFindInTheLongestRow(t *testing.T) {
	for _, want := range patterns(most) {
		r, list := rowOf(t, want), plainList(want)
		if got := r.List(); !slices.Equal(got, list) {
			t.Fatalf("List: %d bits, want %d", len(got), len(list))
		}
		for n, k := range list {
			if r.Nth(n) != k {
				t.Fatalf("Nth(%d): %d, want %d", n, r.Nth(n), k)
			}
		}
		if k := r.Nth(len(list)); k != -1 {
			t.Fatalf("Nth(%d): %d", len(list), k)
		}
		for _, from := range hostile(most) {
			for _, set := range []bool{false, true} {
				if k := r.First(from, set); k != plainFirst(want, from, set) {
					t.Fatalf("First(%d, %v): %d", from, set, k)
				}
			}
			for _, n := range hostile(most) {
				if k := r.Run(from, n); k != plainRun(want, from, n) {
					t.Fatalf("Run(%d, %d): %d", from, n, k)
				}
			}
		}
	}
}

// P3.3: the chapter's example.
func TestWordsOfTheChapter(t *testing.T) {
	r := begin(t, 70, 65)
	if words := r.Words(); !slices.Equal(words, []uint64{0, 2}) {
		t.Errorf("Words %x", words)
	}
	if key := r.Key(); key != (Key{0, 2, 0, 0}) {
		t.Errorf("Key %x", key)
	}
}

// P3.3: Words and Key at the named edges.
func TestWordsAndKeyAtEdges(t *testing.T) {
	for _, x := range []struct {
		n     int
		set   []int
		words []uint64
		key   Key
	}{
		{0, nil, nil, Key{}},
		{1, nil, []uint64{0}, Key{}},
		{1, []int{0}, []uint64{1}, Key{1}},
		{63, []int{0, 62}, []uint64{1<<62 + 1}, Key{1<<62 + 1}},
		{64, []int{63}, []uint64{1 << 63}, Key{1 << 63}},
		{65, []int{63, 64}, []uint64{1 << 63, 1}, Key{1 << 63, 1}},
		{256, []int{0, 127, 128, 255}, []uint64{1, 1 << 63, 1, 1 << 63}, Key{1, 1 << 63, 1, 1 << 63}},
		{257, []int{255, 256}, []uint64{0, 0, 0, 1 << 63, 1}, Key{0, 0, 0, 1 << 63}},
	} {
		r := begin(t, x.n, x.set...)
		if words := r.Words(); !slices.Equal(words, x.words) {
			t.Errorf("%d bits, %v: Words %x, want %x", x.n, x.set, words, x.words)
		}
		if key := r.Key(); key != x.key {
			t.Errorf("%d bits, %v: Key %x, want %x", x.n, x.set, key, x.key)
		}
	}
	r := begin(t, most, 5, most-1)
	words := r.Words()
	if len(words) != 64 || words[0] != 32 || words[63] != 1<<63 || r.Key() != (Key{32}) {
		t.Errorf("%d bits: Words %x, Key %x", most, words, r.Key())
	}
}

// P3.3: Words, Key and Clone of all rows, the last word's upper bits too.
func TestWordsAndKeyBitByBit(t *testing.T) {
	for _, n := range append(lengths(), most) {
		for _, want := range patterns(n) {
			r := rowOf(t, want)
			for _, row := range []*Row{r, r.Clone()} {
				if words := row.Words(); !slices.Equal(words, plainWords(want)) {
					t.Fatalf("%d bits: Words %x, want %x", n, words, plainWords(want))
				}
				if key := row.Key(); key != plainKey(want) {
					t.Fatalf("%d bits: Key %x, want %x", n, key, plainKey(want))
				}
			}
		}
	}
}

// P3.3: keys of rows of up to 256 bits tell the rows apart, and nothing else.
func TestKeysTellRowsApart(t *testing.T) {
	for _, n := range []int{0, 1, 63, 64, 65, 255, 256} {
		seen := map[Key][]bool{}
		rows := patterns(n)
		for k := range n {
			one := make([]bool, n)
			one[k] = true
			rows = append(rows, one)
		}
		for _, row := range rows {
			key := rowOf(t, row).Key()
			if other, ok := seen[key]; ok && !slices.Equal(other, row) {
				t.Fatalf("%d bits: %v and %v have the key %x", n, plainList(other), plainList(row), key)
			}
			seen[key] = row
		}
		for _, row := range rows {
			r := begin(t, n)
			for k := n - 1; k >= 0; k-- {
				r.Set(k)
				if !row[k] {
					r.Clear(k)
				}
			}
			if other, ok := seen[r.Key()]; !ok || !slices.Equal(other, row) {
				t.Fatalf("%d bits: %v has another key, made another way", n, plainList(row))
			}
		}
	}
	long, other := begin(t, 300, 1, 256), begin(t, 300, 1, 299)
	if long.Key() != other.Key() {
		t.Error("bits from 256 on are in the key")
	}
}

// P3.3: a clone goes its own way, and so does the row.
func TestCloneGoesItsOwnWay(t *testing.T) {
	for _, n := range append(lengths(), most) {
		for _, want := range patterns(n)[:8] {
			r := rowOf(t, want)
			c := r.Clone()
			if c == nil || c == r {
				t.Fatalf("%d bits: no row of its own", n)
			}
			wantRow(t, "a clone", c, want)
			turned := make([]bool, n)
			for k := range n {
				turned[k] = !want[k]
				if want[k] {
					c.Clear(k)
				} else {
					c.Set(k)
				}
			}
			wantRow(t, "the row, its clone turned", r, want)
			wantRow(t, "the clone, turned", c, turned)
			d := c.Clone()
			for k := range n {
				c.Set(k)
			}
			wantRow(t, "the clone's clone", d, turned)
		}
	}
}

// P3.2, P3.3: what is answered is new memory, spare room too.
func TestAnswersAreNewMemory(t *testing.T) {
	for _, n := range append(lengths(), most) {
		for _, want := range patterns(n) {
			r := rowOf(t, want)
			words, again := r.Words(), r.Words()
			spoil(words, math.MaxUint64)
			if !slices.Equal(again, plainWords(want)) {
				t.Fatalf("%d bits: two answers of Words share memory", n)
			}
			spoil(again, 0)
			list, second := r.List(), r.List()
			spoil(list, -7)
			if !slices.Equal(second, plainList(want)) {
				t.Fatalf("%d bits: two answers of List share memory", n)
			}
			key := r.Key()
			key[0], key[3] = ^key[0], ^key[3]
			wantRow(t, "after answers were spoilt", r, want)
			if r.Key() != plainKey(want) {
				t.Fatalf("%d bits: the key is shared", n)
			}
		}
	}
}

func spoil[T any](list []T, v T) {
	list = list[:cap(list)]
	for i := range list {
		list[i] = v
	}
}

// P3.2, P3.3: an answer tells the row as it was, whatever becomes of the row.
func TestAnswersStay(t *testing.T) {
	r := begin(t, 100, 1, 70)
	words, list, key := r.Words(), r.List(), r.Key()
	r.Clear(1)
	r.Set(2)
	r.Set(99)
	if !slices.Equal(words, []uint64{2, 64}) || !slices.Equal(list, []int{1, 70}) || key != (Key{2, 64}) {
		t.Errorf("%x %v %x", words, list, key)
	}
}
