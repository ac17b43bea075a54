package vari_test

import (
	"bytes"
	"math"
	"math/rand"
	"slices"
	"testing"

	"moorings/api"
	"moorings/vari"
)

// known are numbers and their bytes, worked out by hand from the document's words.
func known() []struct {
	n int
	b []byte
} {
	return []struct {
		n int
		b []byte
	}{
		{0, []byte{0}},
		{1, []byte{1}},
		{127, []byte{127}},
		{128, []byte{128, 1}},
		{129, []byte{129, 1}},
		{255, []byte{255, 1}},
		{256, []byte{128, 2}},
		{300, []byte{172, 2}},
		{1<<14 - 1, []byte{255, 127}},
		{1 << 14, []byte{128, 128, 1}},
		{1<<21 - 1, []byte{255, 255, 127}},
		{1 << 21, []byte{128, 128, 128, 1}},
		{1<<28 - 1, []byte{255, 255, 255, 127}},
		{1 << 28, []byte{128, 128, 128, 128, 1}},
		{1<<35 - 1, []byte{255, 255, 255, 255, 127}},
		{1 << 35, []byte{128, 128, 128, 128, 128, 1}},
		{1<<40 - 1, []byte{255, 255, 255, 255, 255, 31}},
		{1 << 40, []byte{128, 128, 128, 128, 128, 32}},
	}
}

// notNumbers are below 0, or above 2^40.
func notNumbers() []int {
	return []int{-1, -128, math.MinInt, 1<<40 + 1, 1 << 41, 1 << 62, math.MaxInt}
}

// nones are bytes from whose first one on no number stands.
func nones() [][]byte {
	return [][]byte{
		nil,
		{128},
		{255, 255, 255, 255, 255},
		{255, 255, 255, 255, 255, 255},
		{128, 0},
		{129, 0},
		{172, 128, 0},
		{128, 128, 128, 128, 128, 0},
		{129, 128, 128, 128, 128, 32}, // 2^40 + 1
		{128, 128, 128, 128, 128, 33},
		{255, 255, 255, 255, 255, 127},
		{128, 128, 128, 128, 128, 128, 0},
		{128, 128, 128, 128, 128, 128, 1},
		{128, 128, 128, 128, 128, 160, 0},
		{128, 128, 128, 128, 128, 128, 128, 128, 128, 2}, // 2 times 2^63: none, though it wraps around to 0
		{129, 128, 128, 128, 128, 128, 128, 128, 128, 2}, // wraps around to 1
		{129, 128, 128, 128, 128, 128, 128, 128, 128, 128, 1},
		bytes.Repeat([]byte{128}, 1000),
		append(bytes.Repeat([]byte{128}, 1000), 1),
	}
}

func wantNone(t *testing.T, b []byte, at int) {
	t.Helper()
	if n, end := vari.Get(b, at); n != 0 || end != -1 {
		t.Errorf("Get(%v, %d): %d, %d", b, at, n, end)
	}
}

func TestP1_1Put(t *testing.T) {
	for _, x := range known() {
		if b := vari.Put(x.n); !bytes.Equal(b, x.b) {
			t.Errorf("Put(%d): %v", x.n, b)
		}
	}
	for _, n := range notNumbers() {
		if b := vari.Put(n); len(b) != 0 {
			t.Errorf("Put(%d): %v", n, b)
		}
	}
}

func TestP1_1Get(t *testing.T) {
	for _, x := range known() {
		if n, end := vari.Get(x.b, 0); n != x.n || end != len(x.b) {
			t.Errorf("Get(%v): %d, %d", x.b, n, end)
		}
		for cut := range x.b {
			wantNone(t, x.b[:cut], 0)
		}
	}
	for _, b := range nones() {
		wantNone(t, b, 0)
		wantNone(t, append([]byte{5, 128}, b...), 2)
	}
}

// A number may begin at any place of b, also in the midst of another one's bytes.
func TestP1_1GetPlaces(t *testing.T) {
	b := []byte{172, 2, 0, 128, 128, 1, 128}
	want := [][2]int{{300, 2}, {2, 2}, {0, 3}, {1 << 14, 6}, {128, 6}, {1, 6}, {0, -1}}
	for at, w := range want {
		if n, end := vari.Get(b, at); n != w[0] || end != w[1] {
			t.Errorf("Get at %d: %d, %d", at, n, end)
		}
	}
	for _, at := range []int{-1, -2, math.MinInt, len(b), len(b) + 1, 1 << 40, math.MaxInt} {
		wantNone(t, b, at)
		wantNone(t, nil, at)
	}
}

// Of all strings of up to two bytes just those have a number that begin by some number's Put, and it is that one.
func TestP1_1GetAllShort(t *testing.T) {
	number := map[string]int{}
	for n := range 1 << 14 {
		number[string(vari.Put(n))] = n
	}
	if len(number) != 1<<14 {
		t.Fatal("two numbers have the same bytes")
	}
	for first := range 256 {
		for second := range 256 {
			b := []byte{byte(first), byte(second)}
			want, wantEnd := 0, -1
			for end := 1; end <= 2; end++ {
				if n, is := number[string(b[:end])]; is {
					want, wantEnd = n, end
				}
			}
			if n, end := vari.Get(b, 0); n != want || end != wantEnd {
				t.Fatalf("Get(%v): %d, %d", b, n, end)
			}
		}
	}
}

func TestP1_2All(t *testing.T) {
	for i, x := range []struct {
		l []int
		b []byte
	}{
		{nil, nil},
		{[]int{}, nil},
		{[]int{0}, []byte{0}},
		{[]int{300, 5, 0}, []byte{172, 2, 5, 0}},
		{[]int{0, 127, 128, 1 << 40}, []byte{0, 127, 128, 1, 128, 128, 128, 128, 128, 32}},
		{make([]int, api.MaxList), make([]byte, api.MaxList)},
	} {
		if b, is := vari.All(x.l...); !is || !bytes.Equal(b, x.b) {
			t.Errorf("%d: All: %v, %t", i, b, is)
		}
	}
	for i, l := range [][]int{make([]int, api.MaxList+1), make([]int, 10000)} {
		if b, is := vari.All(l...); is || len(b) != 0 {
			t.Errorf("%d: too many: %v, %t", i, b, is)
		}
	}
	for _, n := range notNumbers() {
		for _, l := range [][]int{{n}, {n, 1, 2}, {1, n, 2}, {1, 2, n}} {
			if b, is := vari.All(l...); is || len(b) != 0 {
				t.Errorf("All(%v): %v, %t", l, b, is)
			}
		}
	}
}

func TestP1_2Read(t *testing.T) {
	for i, x := range []struct {
		b []byte
		l []int
	}{
		{nil, nil},
		{[]byte{}, nil},
		{[]byte{0}, []int{0}},
		{[]byte{172, 2, 5, 0}, []int{300, 5, 0}},
		{[]byte{128, 128, 128, 128, 128, 32, 128, 1, 127, 0}, []int{1 << 40, 128, 127, 0}},
		{make([]byte, api.MaxList), make([]int, api.MaxList)},
		{bytes.Repeat(vari.Put(1<<40), api.MaxList), slices.Repeat([]int{1 << 40}, api.MaxList)},
	} {
		if l, is := vari.Read(x.b); !is || !slices.Equal(l, x.l) {
			t.Errorf("%d: Read: %v, %t", i, l, is)
		}
	}
	for i, b := range [][]byte{
		make([]byte, api.MaxList+1),
		make([]byte, 10000),
		append(make([]byte, api.MaxList), 128),
		bytes.Repeat(vari.Put(1<<40), api.MaxList+1),
	} {
		if l, is := vari.Read(b); is || len(l) != 0 {
			t.Errorf("%d: too many: %v, %t", i, l, is)
		}
	}
	for _, b := range nones()[1:] {
		for _, x := range [][]byte{b, append([]byte{1, 172, 2}, b...)} {
			if l, is := vari.Read(x); is || len(l) != 0 {
				t.Errorf("Read(%v): %v, %t", x, l, is)
			}
		}
	}
}

// sample are numbers of all lengths: the known ones, those around each power of 2, and some of a fixed chance.
func sample() []int {
	var l []int
	for _, x := range known() {
		l = append(l, x.n)
	}
	for i := range 41 {
		for _, n := range []int{1<<i - 1, 1 << i, 1<<i + 1} {
			if n <= api.MaxNum {
				l = append(l, n)
			}
		}
	}
	chance := rand.New(rand.NewSource(1))
	for range 2000 {
		l = append(l, chance.Intn(1<<(1+chance.Intn(40))))
	}
	return l
}

func TestP1_3PutIsGot(t *testing.T) {
	around := [][]byte{nil, {0}, {128}, {255, 255, 255}, {9, 200}, bytes.Repeat([]byte{128}, 9)}
	for _, n := range sample() {
		b := vari.Put(n)
		for _, ahead := range around {
			for _, behind := range around {
				all := slices.Concat(ahead, b, behind)
				if got, end := vari.Get(all, len(ahead)); got != n || end != len(ahead)+len(b) {
					t.Fatalf("Get(%v, %d): %d, %d", all, len(ahead), got, end)
				}
			}
		}
	}
}

func TestP1_3ListIsRead(t *testing.T) {
	for l := range slices.Chunk(sample(), 60) {
		for k := range l {
			b, is := vari.All(l[:k]...)
			if !is {
				t.Fatalf("All(%v): none", l[:k])
			}
			if got, is := vari.Read(b); !is || !slices.Equal(got, l[:k]) {
				t.Fatalf("Read(%v): %v, %t", b, got, is)
			}
		}
	}
}

// Whatever bytes are read, and wherever a number is got: it is put as the same bytes.
func TestP1_3ReadIsPut(t *testing.T) {
	bits := []byte{0, 1, 2, 31, 32, 33, 127, 128, 129, 160, 255}
	chance := rand.New(rand.NewSource(2))
	read := 0
	for range 100000 {
		b := make([]byte, chance.Intn(9))
		for i := range b {
			b[i] = bits[chance.Intn(len(bits))]
		}
		for at := range b {
			if n, end := vari.Get(b, at); end != -1 && !bytes.Equal(vari.Put(n), b[at:end]) {
				t.Fatalf("Get(%v, %d): %d, %d", b, at, n, end)
			}
		}
		l, is := vari.Read(b)
		if !is {
			continue
		}
		read++
		if again, is := vari.All(l...); !is || !bytes.Equal(again, b) {
			t.Fatalf("All(%v): %v, %t, not %v", l, again, is, b)
		}
	}
	if read < 1000 {
		t.Errorf("only %d of the bytes were some list's", read)
	}
}

// What is handed in stays as it was, and what is answered shares nothing with it.
func TestR3OwnMemory(t *testing.T) {
	l := []int{300, 5, 0}
	b, _ := vari.All(l...)
	l[0] = 1
	if !bytes.Equal(b, []byte{172, 2, 5, 0}) {
		t.Error("All shares what it was given")
	}
	got, _ := vari.Read(b)
	vari.Get(b, 0)
	if !bytes.Equal(b, []byte{172, 2, 5, 0}) {
		t.Error("Read or Get changed what it was given")
	}
	b[0] = 0
	if !slices.Equal(got, []int{300, 5, 0}) {
		t.Error("Read shares what it was given")
	}
	one, other := vari.Put(300), vari.Put(300)
	one[0] = 0
	if !bytes.Equal(other, []byte{172, 2}) {
		t.Error("two answers of Put share")
	}
}
