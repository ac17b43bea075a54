package zig_test

import (
	"bytes"
	"math"
	"math/rand"
	"slices"
	"testing"

	"moorings/api"
	"moorings/vari"
	"moorings/zig"
)

// top is the greatest number that a list may hold.
const top = 1<<38 - 1

// known are numbers and their places, worked out by hand from the document's words.
func known() [][2]int {
	return [][2]int{
		{0, 0}, {-1, 1}, {1, 2}, {-2, 3}, {2, 4}, {-3, 5}, {3, 6},
		{63, 126}, {-64, 127}, {64, 128}, {-65, 129},
		{300, 600}, {-300, 599},
		{1<<31 - 1, 1<<32 - 2}, {1 << 31, 1 << 32}, {-1 << 31, 1<<32 - 1}, {-1<<31 - 1, 1<<32 + 1},
		{1<<38 - 1, 1<<39 - 2}, {-1<<38 + 1, 1<<39 - 3},
		{1 << 38, 1 << 39}, {-1 << 38, 1<<39 - 1},
	}
}

func TestP2_1Zig(t *testing.T) {
	for _, x := range known() {
		if k := zig.Zig(x[0]); k != x[1] {
			t.Errorf("Zig(%d): %d, not %d", x[0], k, x[1])
		}
	}
	for _, n := range []int{
		1<<38 + 1, 1<<38 + 2, 1 << 39, 1 << 40, 1 << 62, 1<<62 + 5, math.MaxInt - 1, math.MaxInt,
		-1<<38 - 1, -1<<38 - 2, -1 << 39, -1 << 40, -1 << 62, -1<<62 - 5, math.MinInt + 1, math.MinInt,
	} {
		if k := zig.Zig(n); k != -1 {
			t.Errorf("Zig(%d): %d, not -1", n, k)
		}
	}
}

func TestP2_1Zag(t *testing.T) {
	for _, x := range known() {
		if n := zig.Zag(x[1]); n != x[0] {
			t.Errorf("Zag(%d): %d, not %d", x[1], n, x[0])
		}
	}
	for _, k := range []int{
		-1, -2, -3, -128, -1 << 39, -1 << 62, math.MinInt + 1, math.MinInt,
		1<<39 + 1, 1<<39 + 2, 1<<39 + 3, 1 << 40, 1<<40 + 1, 1 << 62, math.MaxInt - 1, math.MaxInt,
	} {
		if n := zig.Zag(k); n != 0 {
			t.Errorf("Zag(%d): %d, not 0", k, n)
		}
	}
}

// Going up from 0, and from 2^39 down, the places are those of 0, -1, 1, -2 and so on, none left out.
func TestP2_1PlacesInOrder(t *testing.T) {
	for n := range 5000 {
		for _, x := range [][2]int{{n, 2 * n}, {-n - 1, 2*n + 1}, {1<<38 - n, 1<<39 - 2*n}, {-1<<38 + n, 1<<39 - 1 - 2*n}} {
			if k := zig.Zig(x[0]); k != x[1] {
				t.Fatalf("Zig(%d): %d, not %d", x[0], k, x[1])
			}
			if got := zig.Zag(x[1]); got != x[0] {
				t.Fatalf("Zag(%d): %d, not %d", x[1], got, x[0])
			}
		}
	}
}

// lists are some lists and their bytes, worked out by hand from the document's words.
func lists() []struct {
	l []int
	b []byte
} {
	return []struct {
		l []int
		b []byte
	}{
		{nil, nil},
		{[]int{}, []byte{}},
		{[]int{0}, []byte{0}},
		{[]int{1}, []byte{2}},
		{[]int{5, 4, 4}, []byte{10, 1, 0}},
		{[]int{0, 1, 3, 6, 4, 0}, []byte{0, 2, 4, 6, 3, 7}},
		{[]int{63}, []byte{126}},
		{[]int{64}, []byte{128, 1}},
		{[]int{300}, []byte{216, 4}},
		{[]int{100, 163}, []byte{200, 1, 126}},
		{[]int{100, 164}, []byte{200, 1, 128, 1}},
		{[]int{100, 36}, []byte{200, 1, 127}},
		{[]int{100, 35}, []byte{200, 1, 129, 1}},
		{[]int{top}, []byte{254, 255, 255, 255, 255, 15}},
		{[]int{top - 1, top}, []byte{252, 255, 255, 255, 255, 15, 2}},
		{[]int{top, top - 1}, []byte{254, 255, 255, 255, 255, 15, 1}},
		{[]int{0, top, 0}, []byte{0, 254, 255, 255, 255, 255, 15, 253, 255, 255, 255, 255, 15}},
	}
}

// longest are the list of 400 numbers that go up by one each, and its bytes.
func longest() ([]int, []byte) {
	l, b := make([]int, 400), bytes.Repeat([]byte{2}, 400)
	for i := range l {
		l[i] = i + 1
	}
	return l, b
}

func wantNoBytes(t *testing.T, l []int) {
	t.Helper()
	if b, is := zig.Steps(l); is || len(b) != 0 {
		t.Errorf("Steps(%v): %v, %t", l, b, is)
	}
}

func wantNoList(t *testing.T, b []byte) {
	t.Helper()
	if l, is := zig.Sums(b); is || len(l) != 0 {
		t.Errorf("Sums(%v): %v, %t", b, l, is)
	}
}

func TestP2_2Steps(t *testing.T) {
	for _, x := range lists() {
		if b, is := zig.Steps(x.l); !is || !bytes.Equal(b, x.b) {
			t.Errorf("Steps(%v): %v, %t, not %v", x.l, b, is, x.b)
		}
	}
	l, want := longest()
	if b, is := zig.Steps(l); !is || !bytes.Equal(b, want) {
		t.Errorf("Steps of 400 numbers: %v, %t", b, is)
	}
	wantNoBytes(t, append(l, 401))
	wantNoBytes(t, make([]int, 401))
	wantNoBytes(t, make([]int, 10000))
	for _, n := range []int{-1, -2, -64, -1 << 38, math.MinInt, 1 << 38, 1<<38 + 1, 1 << 40, 1 << 62, math.MaxInt} {
		for _, l := range [][]int{{n}, {n, 1, 2}, {1, n, 2}, {1, 2, n}, {top, n}, {n, n}, slices.Repeat([]int{n}, 400)} {
			wantNoBytes(t, l)
		}
	}
}

func TestP2_2Sums(t *testing.T) {
	for _, x := range lists() {
		if l, is := zig.Sums(x.b); !is || !slices.Equal(l, x.l) {
			t.Errorf("Sums(%v): %v, %t, not %v", x.b, l, is, x.l)
		}
	}
	want, b := longest()
	if l, is := zig.Sums(b); !is || !slices.Equal(l, want) {
		t.Errorf("Sums of 400 steps: %v, %t", l, is)
	}
	wantNoList(t, append(b, 2))
	wantNoList(t, make([]byte, 401))
	wantNoList(t, make([]byte, 10000))
}

// Bytes that are no list's: those of no numbers, and steps whose sums leave what a list may hold, be it at the first, in the midst or at last.
func TestP2_2SumsOfNone(t *testing.T) {
	for _, b := range [][]byte{
		{128}, {10, 128}, {128, 0}, {10, 129, 0}, {255, 255, 255, 255, 255, 127},
		{1}, {3}, {127}, {129, 1}, {1, 2}, {1, 4, 10},
		{10, 11, 13}, {10, 13}, {10, 13, 20}, {0, 1}, {2, 1, 1}, {126, 127, 10},
	} {
		wantNoList(t, b)
	}
	for _, places := range [][]int{
		{1 << 39}, {1<<39 - 1}, {1<<39 - 3}, {1<<39 + 1}, {1<<39 + 2}, {1 << 40},
		{1<<39 - 2, 2}, {1<<39 - 2, 2, 1}, {2, 1<<39 - 2}, {2, 1<<39 - 2, 3},
		{0, 1<<39 - 1}, {1<<39 - 2, 1<<39 - 1}, {1<<39 - 2, 1<<39 - 3, 1}, {1<<39 - 2, 1<<39 - 2},
		{0, 1 << 39}, {10, 1 << 39, 1}, {10, 1<<39 - 1, 10},
	} {
		b, is := vari.All(places...)
		if !is {
			t.Fatalf("no bytes of %v", places)
		}
		wantNoList(t, b)
	}
}

// A place that no number has is no step, least of all one of 0.
func TestP2_2SumsOfNoPlace(t *testing.T) {
	for _, k := range []int{1<<39 + 1, 1<<39 + 2, 1<<39 + 20, 1<<40 - 1, 1 << 40} {
		for _, places := range [][]int{{k}, {k, 2}, {10, k}, {10, k, 2}, {1<<39 - 2, k}} {
			b, is := vari.All(places...)
			if !is {
				t.Fatalf("no bytes of %v", places)
			}
			wantNoList(t, b)
		}
	}
}

// shortLists are all lists that have at most two bytes, by these bytes.
func shortLists(t *testing.T) map[string][]int {
	all := map[string][]int{"": nil}
	add := func(l ...int) {
		if b, is := zig.Steps(l); !is {
			t.Fatalf("Steps(%v): none", l)
		} else if len(b) <= 2 {
			all[string(b)] = l
		}
	}
	for n := range 9000 {
		add(n)
	}
	for n := range 64 {
		for m := range 128 {
			add(n, m)
		}
	}
	return all
}

// Of all strings of at most two bytes just those are a list's that are the Steps of one, and it is that one.
func TestP2_2SumsAllShort(t *testing.T) {
	all := shortLists(t)
	check := func(b ...byte) {
		want, has := all[string(b)]
		if l, is := zig.Sums(b); is != has || !slices.Equal(l, want) {
			t.Fatalf("Sums(%v): %v, %t, not %v, %t", b, l, is, want, has)
		}
	}
	check()
	for first := range 256 {
		check(byte(first))
		for second := range 256 {
			check(byte(first), byte(second))
		}
	}
}

// chanceList is a list of up to 400 numbers, which lie within a range of one of many widths.
func chanceList(chance *rand.Rand) []int {
	wide := 1 << chance.Intn(39)
	low := chance.Intn(1<<38 - wide + 1)
	l := make([]int, chance.Intn(1+chance.Intn(401)))
	for i := range l {
		l[i] = low + chance.Intn(wide)
	}
	return l
}

func TestP2_3ListIsAgain(t *testing.T) {
	chance := rand.New(rand.NewSource(1))
	for range 5000 {
		l := chanceList(chance)
		b, is := zig.Steps(l)
		if !is {
			t.Fatalf("Steps(%v): none", l)
		}
		if got, is := zig.Sums(b); !is || !slices.Equal(got, l) {
			t.Fatalf("Sums(%v): %v, %t, not %v", b, got, is, l)
		}
	}
}

// Whatever bytes are some list's: it has the same bytes.
func TestP2_3BytesAreAgain(t *testing.T) {
	some := []byte{0, 1, 2, 3, 4, 10, 15, 16, 31, 32, 126, 127, 128, 129, 252, 253, 254, 255}
	chance := rand.New(rand.NewSource(2))
	read := 0
	for range 200000 {
		b := make([]byte, chance.Intn(9))
		for i := range b {
			b[i] = some[chance.Intn(len(some))]
		}
		l, is := zig.Sums(b)
		if !is {
			continue
		}
		read++
		if again, is := zig.Steps(l); !is || !bytes.Equal(again, b) {
			t.Fatalf("Steps(%v): %v, %t, not %v", l, again, is, b)
		}
	}
	if read < 1000 {
		t.Errorf("only %d of the bytes were some list's", read)
	}
}

// Steps from -64 to 63 take one byte, those beyond take more.
func TestP2_3CloseTakesOneByte(t *testing.T) {
	for _, x := range []struct{ step, size int }{{-66, 2}, {-65, 2}, {-64, 1}, {-1, 1}, {0, 1}, {1, 1}, {63, 1}, {64, 2}, {65, 2}} {
		for _, from := range []int{66, 1000, 1 << 20, top - 65} {
			ahead, _ := zig.Steps([]int{from})
			b, is := zig.Steps([]int{from, from + x.step})
			if !is || len(b)-len(ahead) != x.size {
				t.Errorf("a step of %d from %d: %d bytes, %t", x.step, from, len(b)-len(ahead), is)
			}
		}
	}
	l := make([]int, api.MaxList)
	for i := range l {
		l[i] = 63 * (i % 2)
	}
	if b, is := zig.Steps(l); !is || len(b) != api.MaxList {
		t.Errorf("close numbers take %d bytes, %t", len(b), is)
	}
}

// What is handed in stays as it was, what is answered shares nothing with it, and no call hangs on the ones ahead.
func TestR3OwnMemory(t *testing.T) {
	l, b := []int{5, 4, 4}, []byte{10, 1, 0}
	steps, _ := zig.Steps(l)
	sums, _ := zig.Sums(b)
	if !slices.Equal(l, []int{5, 4, 4}) || !bytes.Equal(b, []byte{10, 1, 0}) {
		t.Error("Steps or Sums changed what it was given")
	}
	l[0], b[0] = 9, 9
	if !bytes.Equal(steps, []byte{10, 1, 0}) || !slices.Equal(sums, []int{5, 4, 4}) {
		t.Error("Steps or Sums shares what it was given")
	}
	zig.Sums([]byte{10, 13})
	zig.Steps([]int{7, -1})
	if steps, _ := zig.Steps([]int{5, 4, 4}); !bytes.Equal(steps, []byte{10, 1, 0}) {
		t.Error("Steps hangs on what was asked before")
	}
	if sums, _ := zig.Sums([]byte{10, 1, 0}); !slices.Equal(sums, []int{5, 4, 4}) {
		t.Error("Sums hangs on what was asked before")
	}
}
