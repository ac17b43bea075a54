package pack_test

import (
	"bytes"
	"math"
	"math/big"
	"math/rand"
	"slices"
	"testing"

	"moorings/pack"
)

// top is the greatest number that has a width.
const top = 1<<32 - 1

// notWidths are below 0, or above 32.
func notWidths() []int {
	return []int{-1, -2, -8, -32, math.MinInt, 33, 34, 40, 63, 64, 65, 1 << 32, 1 << 62, math.MaxInt}
}

// notMany are below 0, or above 400.
func notMany() []int {
	return []int{-1, -2, -400, math.MinInt, 401, 402, 800, 1 << 32, 1 << 61, 1 << 62, math.MaxInt}
}

func TestP3_1Width(t *testing.T) {
	for _, x := range []struct {
		l []int
		w int
	}{
		{nil, 0},
		{[]int{}, 0},
		{[]int{0}, 0},
		{[]int{0, 0, 0}, 0},
		{make([]int, 10000), 0},
		{[]int{1}, 1},
		{[]int{0, 1, 0}, 1},
		{[]int{2}, 2},
		{[]int{1, 2, 3}, 2},
		{[]int{3, 2, 1}, 2},
		{[]int{4, 1}, 3},
		{[]int{1, 4}, 3},
		{[]int{127, 64}, 7},
		{[]int{128}, 8},
		{[]int{255, 256}, 9},
		{[]int{256, 255}, 9},
		{[]int{1<<31 - 1}, 31},
		{[]int{1 << 31, 7}, 32},
		{[]int{0, top, 0}, 32},
		{slices.Repeat([]int{top}, 401), 32},
	} {
		if w := pack.Width(x.l); w != x.w {
			t.Errorf("Width(%v): %d, not %d", x.l, w, x.w)
		}
	}
	for w := range 33 {
		if got := pack.Width([]int{1<<w - 1}); got != w {
			t.Errorf("Width of 2^%d less 1: %d", w, got)
		}
	}
}

// One number below 0, or above 2^32 less 1, and there is no width, wherever it stands.
func TestP3_1WidthOfNone(t *testing.T) {
	for _, n := range []int{-1, -2, -1 << 32, math.MinInt, 1 << 32, 1<<32 + 1, 1 << 33, 1 << 40, 1 << 62, math.MaxInt} {
		for _, l := range [][]int{{n}, {n, 1, 2}, {1, n, 2}, {1, 2, n}, {top, n}, {n, top}, {n, n}} {
			if w := pack.Width(l); w != -1 {
				t.Errorf("Width(%v): %d, not -1", l, w)
			}
		}
	}
	if w := pack.Width([]int{-1, 1 << 32}); w != -1 {
		t.Errorf("Width of one too low and one too great: %d", w)
	}
}

func TestP3_1Size(t *testing.T) {
	for _, x := range [][3]int{
		{0, 0, 0}, {0, 1, 0}, {0, 32, 0}, {1, 0, 0}, {400, 0, 0},
		{1, 1, 1}, {7, 1, 1}, {8, 1, 1}, {9, 1, 2}, {16, 1, 2}, {17, 1, 3}, {400, 1, 50},
		{3, 2, 1}, {4, 2, 1}, {5, 2, 2},
		{1, 7, 1}, {8, 7, 7}, {9, 7, 8}, {400, 7, 350},
		{1, 8, 1}, {9, 8, 9}, {400, 8, 400},
		{1, 9, 2}, {8, 9, 9}, {9, 9, 11}, {400, 9, 450},
		{1, 31, 4}, {8, 31, 31}, {9, 31, 35}, {399, 31, 1547}, {400, 31, 1550},
		{1, 32, 4}, {399, 32, 1596}, {400, 32, 1600},
	} {
		if size := pack.Size(x[0], x[1]); size != x[2] {
			t.Errorf("Size(%d, %d): %d, not %d", x[0], x[1], size, x[2])
		}
	}
	for n := range 401 {
		for w := range 33 {
			whole := pack.Size(n, w)
			if 8*whole < n*w || 8*whole >= n*w+8 {
				t.Fatalf("Size(%d, %d): %d", n, w, whole)
			}
		}
	}
}

func TestP3_1SizeOfNone(t *testing.T) {
	wantNone := func(n, w int) {
		if size := pack.Size(n, w); size != -1 {
			t.Errorf("Size(%d, %d): %d, not -1", n, w, size)
		}
	}
	for _, n := range notMany() {
		for _, w := range []int{0, 1, 8, 32} {
			wantNone(n, w)
		}
		for _, w := range notWidths() {
			wantNone(n, w)
		}
	}
	for _, w := range notWidths() {
		for _, n := range []int{0, 1, 8, 400} {
			wantNone(n, w)
		}
	}
}

// known are some lists, widths, and bytes, worked out by hand from the document's words.
func known() []struct {
	l []int
	w int
	b []byte
} {
	return []struct {
		l []int
		w int
		b []byte
	}{
		{nil, 0, nil},
		{[]int{}, 7, []byte{}},
		{nil, 32, nil},
		{[]int{0}, 0, nil},
		{[]int{0, 0, 0}, 0, nil},
		{make([]int, 400), 0, nil},
		{[]int{0}, 1, []byte{0}},
		{[]int{1}, 1, []byte{1}},
		{[]int{1, 0, 1, 1}, 1, []byte{13}},
		{[]int{0, 0, 0, 0, 0, 0, 0, 1}, 1, []byte{128}},
		{slices.Repeat([]int{1}, 9), 1, []byte{255, 1}},
		{[]int{0, 1, 0, 0, 0, 0, 0, 0, 0, 1, 1}, 1, []byte{2, 6}},
		{[]int{1, 2, 3}, 2, []byte{57}},
		{[]int{1, 2, 3, 0}, 2, []byte{57}},
		{[]int{1, 2, 3, 0, 2}, 2, []byte{57, 2}},
		{[]int{5, 6, 7}, 3, []byte{245, 1}},
		{[]int{127}, 7, []byte{127}},
		{[]int{1, 1}, 7, []byte{129, 0}},
		{[]int{0, 127}, 7, []byte{128, 63}},
		{slices.Repeat([]int{127}, 8), 7, slices.Repeat([]byte{255}, 7)},
		{append(slices.Repeat([]int{127}, 8), 65), 7, append(slices.Repeat([]byte{255}, 7), 65)},
		{[]int{1, 200, 255, 0}, 8, []byte{1, 200, 255, 0}},
		{[]int{300}, 9, []byte{44, 1}},
		{[]int{0, 511}, 9, []byte{0, 254, 3}},
		{[]int{511, 0, 1}, 9, []byte{255, 1, 4, 0}},
		{[]int{1<<31 - 1}, 31, []byte{255, 255, 255, 127}},
		{[]int{1, 1}, 31, []byte{1, 0, 0, 128, 0, 0, 0, 0}},
		{[]int{0, 1<<31 - 1}, 31, []byte{0, 0, 0, 128, 255, 255, 255, 63}},
		{[]int{top, 1}, 32, []byte{255, 255, 255, 255, 1, 0, 0, 0}},
		{[]int{0x04030201, 0x80706050}, 32, []byte{1, 2, 3, 4, 0x50, 0x60, 0x70, 0x80}},
		{slices.Repeat([]int{1}, 400), 1, slices.Repeat([]byte{255}, 50)},
		{slices.Repeat([]int{1<<31 - 1}, 400), 31, slices.Repeat([]byte{255}, 1550)},
		{slices.Repeat([]int{top}, 400), 32, slices.Repeat([]byte{255}, 1600)},
		{append(make([]int, 399), 1<<31), 32, append(make([]byte, 1599), 128)},
	}
}

func wantPacked(t *testing.T, l []int, w int, want []byte) {
	t.Helper()
	if b, is := pack.Pack(l, w); !is || !bytes.Equal(b, want) {
		t.Errorf("Pack(%v, %d): %v, %t, not %v", l, w, b, is, want)
	}
}

func wantUnpacked(t *testing.T, b []byte, n, w int, want []int) {
	t.Helper()
	if l, is := pack.Unpack(b, n, w); !is || !slices.Equal(l, want) {
		t.Errorf("Unpack(%v, %d, %d): %v, %t, not %v", b, n, w, l, is, want)
	}
}

func wantNoBytes(t *testing.T, l []int, w int) {
	t.Helper()
	if b, is := pack.Pack(l, w); is || len(b) != 0 {
		t.Errorf("Pack(%v, %d): %v, %t", l, w, b, is)
	}
}

func wantNoList(t *testing.T, b []byte, n, w int) {
	t.Helper()
	if l, is := pack.Unpack(b, n, w); is || len(l) != 0 {
		t.Errorf("Unpack(%v, %d, %d): %v, %t", b, n, w, l, is)
	}
}

func TestP3_2Known(t *testing.T) {
	for _, x := range known() {
		wantPacked(t, x.l, x.w, x.b)
		wantUnpacked(t, x.b, len(x.l), x.w, x.l)
	}
}

// One number that has not the width, and there are no bytes, wherever it stands.
func TestP3_2PackTooWide(t *testing.T) {
	for w := range 33 {
		for _, n := range []int{-1, -2, -1 << 31, -1 << 32, math.MinInt, 1 << w, 1<<w + 1, 1 << 32, 1 << 40, math.MaxInt} {
			for _, l := range [][]int{{n}, {n, 0}, {0, n}, {0, n, 0}, append(make([]int, 8), n), append(make([]int, 399), n)} {
				wantNoBytes(t, l, w)
			}
		}
		wantNoBytes(t, slices.Repeat([]int{1 << w}, 400), w)
	}
}

func TestP3_2PackWrong(t *testing.T) {
	for _, w := range notWidths() {
		for _, l := range [][]int{nil, {0}, {1}, {-1}, {top}, make([]int, 400), make([]int, 401)} {
			wantNoBytes(t, l, w)
		}
	}
	for w := range 33 {
		wantNoBytes(t, make([]int, 401), w)
		wantNoBytes(t, make([]int, 10000), w)
	}
}

func TestP3_2UnpackWrong(t *testing.T) {
	for _, b := range [][]byte{nil, {0}, {1}, make([]byte, 50), make([]byte, 1600), make([]byte, 1604)} {
		for _, n := range notMany() {
			for _, w := range []int{0, 1, 8, 32} {
				wantNoList(t, b, n, w)
			}
		}
		for _, w := range notWidths() {
			for _, n := range []int{0, 1, 8, 400, -1, 401} {
				wantNoList(t, b, n, w)
			}
		}
	}
}

// Bytes too many, or too few, are no list's, be they noughts or not.
func TestP3_2UnpackOtherSize(t *testing.T) {
	for _, w := range []int{0, 1, 7, 8, 9, 31, 32} {
		for _, n := range []int{0, 1, 2, 7, 8, 9, 10, 399, 400} {
			size := (n*w + 7) / 8
			wantUnpacked(t, make([]byte, size), n, w, make([]int, n))
			for _, other := range []int{0, size - 2, size - 1, size + 1, size + 2, 2*size + 8, 1601, 5000} {
				if other >= 0 && other != size {
					wantNoList(t, make([]byte, other), n, w)
					wantNoList(t, bytes.Repeat([]byte{1}, other), n, w)
				}
			}
		}
	}
}

// Behind the last number no bit but 0 may stand, and each one of a number is its own.
func TestP3_2EachBit(t *testing.T) {
	for _, w := range []int{0, 1, 2, 3, 5, 7, 8, 9, 10, 31, 32} {
		for _, n := range []int{0, 1, 2, 3, 7, 8, 9, 13} {
			size := (n*w + 7) / 8
			for at := range size * 8 {
				b := make([]byte, size)
				b[at/8] = 1 << (at % 8)
				if at >= n*w {
					wantNoList(t, b, n, w)
					continue
				}
				l := make([]int, n)
				l[at/w] = 1 << (at % w)
				wantUnpacked(t, b, n, w, l)
				wantPacked(t, l, w, b)
			}
		}
	}
	wantNoList(t, []byte{121}, 3, 2)
	wantNoList(t, []byte{57}, 2, 2)
	wantNoList(t, append(make([]byte, 49), 128), 399, 1)
}

// chanceList is a list of numbers of a width, most of them of many bits.
func chanceList(chance *rand.Rand, n, w int) []int {
	l := make([]int, n)
	for i := range l {
		switch chance.Intn(8) {
		case 0:
			l[i] = 0
		case 1:
			l[i] = 1<<w - 1
		default:
			l[i] = chance.Intn(1 << w)
		}
	}
	return l
}

// inOne are the bytes of a list by another way: it is one great number, whose digits to the base of 2^w the list's are.
func inOne(l []int, w int) []byte {
	great := new(big.Int)
	for _, n := range slices.Backward(l) {
		great.Lsh(great, uint(w)).Add(great, big.NewInt(int64(n)))
	}
	b := great.FillBytes(make([]byte, (len(l)*w+7)/8))
	slices.Reverse(b)
	return b
}

// For all widths, lists of all lengths up to 20, and of some others, have the bytes of one great number.
func TestP3_2AllWidths(t *testing.T) {
	chance := rand.New(rand.NewSource(1))
	for w := range 33 {
		for n := range 24 {
			many := n
			if n > 20 {
				many = 397 + n - 20
			}
			l := chanceList(chance, many, w)
			b := inOne(l, w)
			wantPacked(t, l, w, b)
			wantUnpacked(t, b, many, w, l)
		}
	}
}

// shortLists are all lists of n numbers of a width, by their bytes.
func shortLists(t *testing.T, n, w int) map[string][]int {
	all := map[string][]int{}
	for k := range 1 << (n * w) {
		l := make([]int, n)
		for i := range l {
			l[i] = k >> (i * w) & (1<<w - 1)
		}
		b, is := pack.Pack(l, w)
		if !is {
			t.Fatalf("Pack(%v, %d): none", l, w)
		}
		all[string(b)] = l
	}
	if len(all) != 1<<(n*w) {
		t.Fatalf("two lists of %d numbers of %d bits have the same bytes", n, w)
	}
	return all
}

// Of all strings of at most two bytes just those are a list's, of n numbers of a width, that are the Pack of one, and it is that one.
func TestP3_2UnpackAllShort(t *testing.T) {
	for n := range 11 {
		for w := range 11 {
			if n*w > 10 {
				continue
			}
			all := shortLists(t, n, w)
			check := func(b ...byte) {
				want, has := all[string(b)]
				if l, is := pack.Unpack(b, n, w); is != has || !slices.Equal(l, want) {
					t.Fatalf("Unpack(%v, %d, %d): %v, %t, not %v, %t", b, n, w, l, is, want, has)
				}
			}
			check()
			for first := range 256 {
				check(byte(first))
				for second := range 256 {
					check(byte(first), byte(second))
				}
			}
		}
	}
}

func TestP3_3PackedIsUnpacked(t *testing.T) {
	chance := rand.New(rand.NewSource(2))
	for range 4000 {
		w := chance.Intn(33)
		l := chanceList(chance, chance.Intn(1+chance.Intn(401)), w)
		for _, as := range []int{w, pack.Width(l), 32} {
			b, is := pack.Pack(l, as)
			if !is || len(b) != pack.Size(len(l), as) {
				t.Fatalf("Pack(%v, %d): %v, %t", l, as, b, is)
			}
			if got, is := pack.Unpack(b, len(l), as); !is || !slices.Equal(got, l) {
				t.Fatalf("Unpack(%v, %d, %d): %v, %t, not %v", b, len(l), as, got, is, l)
			}
		}
		if least := pack.Width(l); least > 0 {
			wantNoBytes(t, l, least-1)
		}
	}
}

// Whatever bytes are some list's: it has the same bytes.
func TestP3_3UnpackedIsPacked(t *testing.T) {
	chance := rand.New(rand.NewSource(3))
	unpacked, refused := 0, 0
	for range 50000 {
		n, w := chance.Intn(12), chance.Intn(33)
		b := make([]byte, pack.Size(n, w))
		for i := range b {
			b[i] = byte(chance.Intn(256))
		}
		if len(b) > 0 && chance.Intn(2) == 0 {
			b[len(b)-1] = byte(chance.Intn(4))
		}
		l, is := pack.Unpack(b, n, w)
		if !is {
			refused++
			continue
		}
		unpacked++
		if again, is := pack.Pack(l, w); !is || !bytes.Equal(again, b) {
			t.Fatalf("Pack(%v, %d): %v, %t, not %v", l, w, again, is, b)
		}
	}
	if unpacked < 1000 || refused < 1000 {
		t.Errorf("%d of the bytes were some list's, %d none's", unpacked, refused)
	}
}

// What is handed in stays as it was, what is answered shares nothing with it, and no call hangs on the ones ahead.
func TestR3OwnMemory(t *testing.T) {
	l, b := []int{1, 2, 3}, []byte{57}
	packed, _ := pack.Pack(l, 2)
	unpacked, _ := pack.Unpack(b, 3, 2)
	pack.Width(l)
	if !slices.Equal(l, []int{1, 2, 3}) || !bytes.Equal(b, []byte{57}) {
		t.Error("a call changed what it was given")
	}
	l[0], b[0] = 0, 0
	if !bytes.Equal(packed, []byte{57}) || !slices.Equal(unpacked, []int{1, 2, 3}) {
		t.Error("Pack or Unpack shares what it was given")
	}
	packed[0], unpacked[0] = 255, 9
	pack.Pack(slices.Repeat([]int{top}, 400), 32)
	pack.Unpack([]byte{121}, 3, 2)
	wantPacked(t, []int{1, 2, 3}, 2, []byte{57})
	wantUnpacked(t, []byte{57}, 3, 2, []int{1, 2, 3})
}
