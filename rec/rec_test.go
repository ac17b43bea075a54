package rec_test

import (
	"bytes"
	"hash/crc32"
	"math"
	"math/bits"
	"math/rand"
	"slices"
	"testing"

	"moorings/api"
	"moorings/rec"
)

// known are records and their bytes; the sums were made by a program of its own, by the document's words.
func known() []struct {
	r api.Rec
	b []byte
} {
	return []struct {
		r api.Rec
		b []byte
	}{
		{api.Rec{Kind: 7}, []byte{7, 0, 200, 135, 229, 248}},
		{api.Rec{Kind: 7, Body: []byte{}}, []byte{7, 0, 200, 135, 229, 248}},
		{api.Rec{Kind: 0}, []byte{0, 0, 255, 72, 155, 130}},
		{api.Rec{Kind: 255}, []byte{255, 0, 177, 247, 191, 75}},
		{api.Rec{Kind: 7, Body: []byte{1, 2, 3}}, []byte{7, 3, 1, 2, 3, 143, 18, 201, 72}},
		{api.Rec{Kind: 1, Body: []byte{0}}, []byte{1, 1, 0, 155, 90, 239, 164}},
		{api.Rec{Kind: 2, Body: []byte("mooring")}, []byte{2, 7, 'm', 'o', 'o', 'r', 'i', 'n', 'g', 91, 166, 16, 114}},
	}
}

// sealed are several bytes, and their sum by another way: by the library's sums, which take each byte's lowest bit first.
func sealed(parts ...[]byte) []byte {
	b := slices.Concat(parts...)
	turned := make([]byte, len(b))
	for i := range b {
		turned[i] = bits.Reverse8(b[i])
	}
	sum := bits.Reverse32(crc32.ChecksumIEEE(turned))
	return append(b, byte(sum>>24), byte(sum>>16), byte(sum>>8), byte(sum))
}

// length are the bytes of a number below 2^14.
func length(n int) []byte {
	if n < 128 {
		return []byte{byte(n)}
	}
	return []byte{byte(n%128) + 128, byte(n / 128)}
}

// bytesOf are a record's bytes by another way.
func bytesOf(kind byte, body []byte) []byte {
	return sealed([]byte{kind}, length(len(body)), body)
}

// chanceBytes are n bytes, many of them 0, 127, 128 or 255.
func chanceBytes(chance *rand.Rand, n int) []byte {
	edges := []byte{0, 1, 127, 128, 255}
	b := make([]byte, n)
	for i := range b {
		b[i] = byte(chance.Intn(256))
		if chance.Intn(3) == 0 {
			b[i] = edges[chance.Intn(len(edges))]
		}
	}
	return b
}

// sizes are how many bytes a body has in these tests: all few, and those around what the document names.
func sizes() []int {
	return []int{0, 1, 2, 3, 4, 5, 6, 7, 126, 127, 128, 129, 255, 256, 257, 383, 384, 511, 512, 895, 896, 998, 999, 1000}
}

// sample are records of many kinds and of all the sizes.
func sample(chance *rand.Rand) []api.Rec {
	var l []api.Rec
	for i, size := range sizes() {
		for _, kind := range []int{0, 1, 2, 127, 128, 254, 255, i} {
			l = append(l, api.Rec{Kind: kind, Body: chanceBytes(chance, size)})
		}
	}
	return l
}

// lengths are the bytes of all lengths that a body may have, in order.
func lengths() [][]byte {
	var l [][]byte
	for n := range 1001 {
		l = append(l, length(n))
	}
	return l
}

// reader makes what Get must answer, by the document's words, but that it tries the bytes of all lengths that may be.
func reader() func(b []byte, at int) (api.Rec, int, api.Errno) {
	all := lengths()
	return func(b []byte, at int) (api.Rec, int, api.Errno) {
		if at < 0 || at > len(b) {
			return api.Rec{}, 0, api.ErrForm
		}
		if at == len(b) {
			return api.Rec{}, 0, api.ErrShort
		}
		behind := b[at+1:]
		last := slices.IndexFunc(behind, func(c byte) bool { return c < 128 })
		if last == -1 && len(behind) < 6 {
			return api.Rec{}, 0, api.ErrShort
		}
		size := slices.IndexFunc(all, func(n []byte) bool { return bytes.HasPrefix(behind, n) })
		if size == -1 {
			return api.Rec{}, 0, api.ErrForm
		}
		body := at + 1 + len(all[size])
		end := body + size + 4
		if end > len(b) {
			return api.Rec{}, 0, api.ErrShort
		}
		if !bytes.Equal(sealed(b[at:end-4]), b[at:end]) {
			return api.Rec{}, 0, api.ErrSum
		}
		return api.Rec{Kind: int(b[at]), Body: b[body : end-4]}, end, api.OK
	}
}

// same tells whether two records are the same, by the library.
func same(a, b api.Rec) bool {
	return a.Kind == b.Kind && bytes.Equal(a.Body, b.Body)
}

func wantPut(t *testing.T, r api.Rec, want []byte) {
	t.Helper()
	if b, is := rec.Put(r); !is || !bytes.Equal(b, want) {
		t.Errorf("Put(%v): %v, %t, not %v", r, b, is, want)
	}
}

func wantNotPut(t *testing.T, r api.Rec) {
	t.Helper()
	if b, is := rec.Put(r); is || len(b) != 0 {
		t.Errorf("Put of Kind %d and %d bytes: %v, %t", r.Kind, len(r.Body), b, is)
	}
}

func wantSame(t *testing.T, a, b api.Rec, want bool) {
	t.Helper()
	if rec.Same(a, b) != want || rec.Same(b, a) != want {
		t.Errorf("Same(%v, %v): not %t", a, b, want)
	}
}

func wantGot(t *testing.T, b []byte, at int, r api.Rec, end int) {
	t.Helper()
	if got, gotEnd, e := rec.Get(b, at); e != api.OK || gotEnd != end || !same(got, r) {
		t.Errorf("Get(%v, %d): %v, %d, %d, not %v, %d", b, at, got, gotEnd, e, r, end)
	}
}

func wantError(t *testing.T, b []byte, at int, want api.Errno) {
	t.Helper()
	if r, end, e := rec.Get(b, at); e != want || end != 0 || r.Kind != 0 || len(r.Body) != 0 {
		t.Errorf("Get(%v, %d): %v, %d, %d, not %d", b, at, r, end, e, want)
	}
}

func wantScan(t *testing.T, b []byte, want []api.Rec, wantAt int) {
	t.Helper()
	if l, at := rec.Scan(b); at != wantAt || !slices.EqualFunc(l, want, same) {
		t.Errorf("Scan(%v): %v, %d, not %v, %d", b, l, at, want, wantAt)
	}
}

func TestP5_1Known(t *testing.T) {
	for _, x := range known() {
		wantPut(t, x.r, x.b)
		wantGot(t, x.b, 0, x.r, len(x.b))
		if b := bytesOf(byte(x.r.Kind), x.r.Body); !bytes.Equal(b, x.b) {
			t.Errorf("the other way's bytes of %v: %v", x.r, b)
		}
	}
}

func TestP5_1Put(t *testing.T) {
	chance := rand.New(rand.NewSource(1))
	for kind := range 256 {
		body := chanceBytes(chance, chance.Intn(200))
		wantPut(t, api.Rec{Kind: kind}, bytesOf(byte(kind), nil))
		wantPut(t, api.Rec{Kind: kind, Body: body}, bytesOf(byte(kind), body))
	}
	for size := range 1001 {
		kind := chance.Intn(256)
		body := chanceBytes(chance, size)
		wantPut(t, api.Rec{Kind: kind, Body: body}, bytesOf(byte(kind), body))
	}
	for _, x := range []struct{ size, all int }{{0, 6}, {127, 133}, {128, 135}, {1000, 1007}} {
		if b, _ := rec.Put(api.Rec{Body: make([]byte, x.size)}); len(b) != x.all {
			t.Errorf("a body of %d bytes has a record of %d", x.size, len(b))
		}
	}
}

func TestP5_1PutNone(t *testing.T) {
	for _, kind := range []int{-1, -2, -7, -255, -256, -249, 256, 257, 263, 511, 512, 1 << 16, 1<<32 + 7, -1 << 32, math.MinInt, math.MaxInt} {
		wantNotPut(t, api.Rec{Kind: kind})
		wantNotPut(t, api.Rec{Kind: kind, Body: []byte{1, 2, 3}})
		wantNotPut(t, api.Rec{Kind: kind, Body: make([]byte, 1000)})
	}
	for _, size := range []int{1001, 1002, 1023, 1024, 2000, 1 << 14, 1 << 16} {
		wantNotPut(t, api.Rec{Body: make([]byte, size)})
		wantNotPut(t, api.Rec{Kind: 255, Body: make([]byte, size)})
		wantNotPut(t, api.Rec{Kind: 256, Body: make([]byte, size)})
	}
}

func TestP5_1Same(t *testing.T) {
	wantSame(t, api.Rec{}, api.Rec{}, true)
	wantSame(t, api.Rec{}, api.Rec{Body: []byte{}}, true)
	wantSame(t, api.Rec{Kind: 7}, api.Rec{Kind: 7, Body: make([]byte, 0, 9)}, true)
	wantSame(t, api.Rec{Body: []byte{}}, api.Rec{Body: []byte{}}, true)
	wantSame(t, api.Rec{}, api.Rec{Body: []byte{0}}, false)
	wantSame(t, api.Rec{Body: []byte{0}}, api.Rec{Body: []byte{0, 0}}, false)
	wantSame(t, api.Rec{Kind: 1}, api.Rec{Kind: 2}, false)
	body := []byte{1, 2, 3}
	r := api.Rec{Kind: 7, Body: body}
	wantSame(t, r, r, true)
	wantSame(t, r, api.Rec{Kind: 7, Body: append(make([]byte, 0, 50), 1, 2, 3)}, true)
	for _, kind := range []int{-7, 0, 6, 8, 255, 7 + 256, 7 - 256, 7 + 1<<32} {
		wantSame(t, r, api.Rec{Kind: kind, Body: body}, false)
	}
	for _, other := range [][]byte{nil, {1}, {1, 2}, {2, 3}, {1, 2, 3, 0}, {0, 1, 2, 3}, {0, 2, 3}, {1, 0, 3}, {1, 2, 0}, {1, 2, 131}, {3, 2, 1}} {
		wantSame(t, r, api.Rec{Kind: 7, Body: other}, false)
	}
}

// What has no bytes, as its Kind or its Body won't do, is the same as another one all the same.
func TestP5_1SameOfAny(t *testing.T) {
	for _, kind := range []int{-1, 256, math.MinInt, math.MaxInt} {
		for _, size := range []int{0, 1000, 1001, 5000} {
			r := api.Rec{Kind: kind, Body: make([]byte, size)}
			wantSame(t, r, api.Rec{Kind: kind, Body: make([]byte, size)}, true)
			wantSame(t, r, api.Rec{Kind: kind ^ 256, Body: make([]byte, size)}, false)
			wantSame(t, r, api.Rec{Kind: kind, Body: make([]byte, size+1)}, false)
		}
	}
	a, b := make([]byte, 1001), make([]byte, 1001)
	b[1000] = 1
	wantSame(t, api.Rec{Body: a}, api.Rec{Body: b}, false)
}

func TestP5_2NoSuchPlace(t *testing.T) {
	b := bytesOf(7, []byte{1, 2, 3})
	for _, all := range [][]byte{nil, {}, {7}, {7, 128}, {7, 128, 128, 128, 128, 128, 128}, b, slices.Concat(b, b)} {
		for _, at := range []int{-1, -2, -len(b), math.MinInt, len(all) + 1, len(all) + 2, 1 << 32, math.MaxInt - 1, math.MaxInt} {
			wantError(t, all, at, api.ErrForm)
		}
		wantError(t, all, len(all), api.ErrShort)
	}
	// What stands behind bytes, in the same memory, is not theirs.
	wantError(t, b[:0], 1, api.ErrForm)
	wantError(t, b[:0], 0, api.ErrShort)
	wantError(t, b[:len(b)-1], 0, api.ErrShort)
}

// Behind a Kind with bytes of 128 or more alone a number may go on, as long as they are fewer than six.
func TestP5_2LengthCutOff(t *testing.T) {
	for _, kind := range []byte{0, 7, 127, 128, 255} {
		for _, ahead := range [][]byte{nil, {5}, {128, 128}, {0, 0, 0, 0, 0, 0, 0}, bytesOf(1, []byte{9})} {
			for _, c := range []byte{128, 129, 232, 233, 255} {
				for n := range 20 {
					b := slices.Concat(ahead, []byte{kind}, bytes.Repeat([]byte{c}, n))
					want := api.ErrShort
					if n >= 6 {
						want = api.ErrForm
					}
					wantError(t, b, len(ahead), want)
				}
			}
		}
	}
	wantError(t, append([]byte{7}, bytes.Repeat([]byte{255}, 5000)...), 0, api.ErrForm)
	wantError(t, []byte{7, 128, 255, 129, 254, 200}, 0, api.ErrShort)
	wantError(t, []byte{7, 128, 255, 129, 254, 200, 128}, 0, api.ErrForm)
}

// One byte below 128 behind the Kind, and no number goes on: it is one, or none.
func TestP5_2LengthEnds(t *testing.T) {
	for n := range 8 {
		for _, last := range []byte{0, 1, 31, 32, 33, 127} {
			b := slices.Concat([]byte{7}, bytes.Repeat([]byte{128}, n), []byte{last})
			want := api.ErrForm
			if n == 0 || n == 1 && last == 1 {
				want = api.ErrShort
			}
			wantError(t, b, 0, want)
			wantError(t, append([]byte{200}, b...), 1, want)
		}
	}
	wantError(t, []byte{7, 255, 0}, 0, api.ErrForm)
	wantError(t, []byte{7, 128, 0, 128}, 0, api.ErrForm)
}

// Another spelling of a length, or one above 1000, won't do, though the sum is that of the bytes.
func TestP5_2NotALength(t *testing.T) {
	body := make([]byte, 1100)
	for _, x := range []struct {
		number []byte
		size   int
	}{
		{[]byte{128, 0}, 0},
		{[]byte{131, 0}, 3},
		{[]byte{131, 128, 0}, 3},
		{[]byte{255, 0}, 127},
		{[]byte{128, 129, 0}, 128},
		{[]byte{232, 135, 0}, 1000},
		{[]byte{131, 128, 128, 128, 128, 0}, 3},
		{[]byte{131, 128, 128, 128, 128, 128, 0}, 3},
		{[]byte{233, 7}, 1001},
		{[]byte{234, 7}, 1002},
		{[]byte{255, 7}, 1023},
		{[]byte{128, 8}, 1024},
	} {
		b := sealed([]byte{7}, x.number, body[:x.size])
		wantError(t, b, 0, api.ErrForm)
		wantError(t, slices.Concat([]byte{7, 7}, b, body), 2, api.ErrForm)
		wantError(t, b[:1+len(x.number)], 0, api.ErrForm)
	}
	for _, number := range [][]byte{{128, 128, 1}, {255, 255, 255, 255, 255, 31}, {128, 128, 128, 128, 128, 32}, {129, 128, 128, 128, 128, 32}, {128, 128, 128, 128, 128, 128, 128, 128, 128, 2}} {
		wantError(t, slices.Concat([]byte{7}, number), 0, api.ErrForm)
		wantError(t, slices.Concat([]byte{7}, number, body), 0, api.ErrForm)
	}
	wantGot(t, sealed([]byte{7, 232, 7}, body[:1000]), 0, api.Rec{Kind: 7, Body: body[:1000]}, 1007)
}

// All lengths of one and of two bytes, of none and of many bytes behind them.
func TestP5_2AllLengths(t *testing.T) {
	read := reader()
	for first := range 256 {
		for second := range 256 {
			b := []byte{7, byte(first), byte(second)}
			_, _, e := read(b, 0)
			wantError(t, b, 0, e)
		}
		for second := range 9 {
			b := append([]byte{7, byte(first), byte(second)}, make([]byte, 1004)...)
			_, _, e := read(b, 0)
			wantError(t, b, 0, e)
		}
	}
}

// Any bytes too few, for the sum, for the body, or for what is ahead of it: as long as there are too few nothing is made of what is there.
func TestP5_2TooFew(t *testing.T) {
	for _, r := range sample(rand.New(rand.NewSource(2))) {
		b := bytesOf(byte(r.Kind), r.Body)
		spoiled := slices.Clone(b)
		spoiled[0]++
		for cut := range b {
			wantError(t, b[:cut], 0, api.ErrShort)
			wantError(t, spoiled[:cut], 0, api.ErrShort)
		}
		wantError(t, spoiled, 0, api.ErrSum)
		wantGot(t, b, 0, r, len(b))
	}
}

// Another bit anywhere is told: in a length by what that says then, elsewhere by the sum.
func TestP5_2OtherBit(t *testing.T) {
	read := reader()
	chance := rand.New(rand.NewSource(3))
	for _, size := range []int{0, 1, 3, 9, 127, 128, 130, 1000} {
		b := bytesOf(byte(chance.Intn(256)), chanceBytes(chance, size))
		number := len(length(size))
		for at := range 8 * len(b) {
			other := slices.Clone(b)
			other[at/8] ^= 1 << (at % 8)
			want := api.ErrSum
			if at/8 >= 1 && at/8 <= number {
				_, _, want = read(other, 0)
			}
			if want == api.OK {
				t.Fatalf("%v, a bit another one, is a record", other)
			}
			wantError(t, other, 0, want)
		}
	}
}

// Of several errors that would fit the one that stands first is told.
func TestP5_2FirstError(t *testing.T) {
	for _, x := range []struct {
		b  []byte
		at int
		e  api.Errno
	}{
		{nil, 1, api.ErrForm},
		{nil, -1, api.ErrForm},
		{[]byte{7}, -1, api.ErrForm},
		{[]byte{7}, 2, api.ErrForm},
		// What is cut off is above 1000, whatever follows.
		{[]byte{7, 255, 255}, 0, api.ErrShort},
		{[]byte{7, 128, 128, 128, 128, 128}, 0, api.ErrShort},
		{[]byte{7, 255, 255, 255, 255, 255, 255}, 0, api.ErrForm},
		// Fewer bytes follow than that many, and four.
		{[]byte{7, 128, 0}, 0, api.ErrForm},
		{[]byte{7, 233, 7}, 0, api.ErrForm},
		{[]byte{7, 233, 7, 1, 2, 3, 4, 5, 6, 7, 8}, 0, api.ErrForm},
		// The sum is another one.
		{[]byte{7, 130, 0, 1, 2, 0, 0, 0, 0}, 0, api.ErrForm},
		{[]byte{7, 232, 7, 1, 2, 3}, 0, api.ErrShort},
		{[]byte{7, 3, 1, 2, 3, 0, 0, 0}, 0, api.ErrShort},
		{[]byte{7, 0, 0, 0, 0}, 0, api.ErrShort},
		{[]byte{7, 0, 0, 0, 0, 0}, 0, api.ErrSum},
		{[]byte{7, 3, 1, 2, 3, 0, 0, 0, 0}, 0, api.ErrSum},
		// From another place on.
		{[]byte{7, 3, 1, 2, 3, 143, 18, 201, 72}, 1, api.ErrSum},
		{[]byte{7, 3, 1, 2, 3, 143, 18, 201, 72}, 3, api.ErrShort},
		{[]byte{7, 3, 1, 2, 3, 143, 18, 201, 72}, 4, api.ErrForm},
		{make([]byte, 12), 6, api.ErrSum},
		{make([]byte, 12), 7, api.ErrShort},
		{make([]byte, 12), 12, api.ErrShort},
		{make([]byte, 12), 13, api.ErrForm},
		{[]byte{255, 255, 255, 255, 255, 255, 255, 0}, 0, api.ErrForm},
		{[]byte{255, 255, 255, 255, 255, 255, 255, 0}, 5, api.ErrForm},
		{[]byte{255, 255, 255, 255, 255, 255, 255, 0}, 6, api.ErrShort},
		{[]byte{255, 255, 255, 255, 255, 255, 255, 0}, 7, api.ErrShort},
	} {
		wantError(t, x.b, x.at, x.e)
	}
}

// At all places of any bytes Get answers what it must, by another way.
func TestP5_2Any(t *testing.T) {
	read := reader()
	chance := rand.New(rand.NewSource(4))
	seen := map[api.Errno]int{}
	for range 3000 {
		b := chanceBytes(chance, chance.Intn(9))
		for chance.Intn(3) > 0 {
			b = append(b, bytesOf(byte(chance.Intn(256)), chanceBytes(chance, chance.Intn(6)))...)
		}
		if len(b) > 0 && chance.Intn(2) == 0 {
			b[chance.Intn(len(b))] = byte(chance.Intn(256))
		}
		b = b[:len(b)-chance.Intn(min(len(b), 4)+1)]
		for at := range len(b) + 4 {
			r, end, e := read(b, at-2)
			seen[e]++
			if e == api.OK {
				wantGot(t, b, at-2, r, end)
			} else {
				wantError(t, b, at-2, e)
			}
		}
	}
	for _, e := range []api.Errno{api.OK, api.ErrForm, api.ErrSum, api.ErrShort} {
		if seen[e] < 500 {
			t.Errorf("%d was wanted %d times", e, seen[e])
		}
	}
}

func TestP5_3None(t *testing.T) {
	b := bytesOf(7, []byte{1, 2, 3})
	spoiled := slices.Clone(b)
	spoiled[4] ^= 16
	for _, none := range [][]byte{nil, {}, {7}, {7, 0}, {7, 128, 0}, {7, 0, 0, 0, 0, 0}, make([]byte, 100), bytes.Repeat([]byte{255}, 100), b[1:], b[:len(b)-1], spoiled, slices.Concat(spoiled, b), slices.Concat([]byte{0}, b)} {
		wantScan(t, none, nil, 0)
	}
}

func TestP5_3Whole(t *testing.T) {
	l := sample(rand.New(rand.NewSource(5)))
	var all []byte
	for i := range l {
		wantScan(t, all, l[:i], len(all))
		all = append(all, bytesOf(byte(l[i].Kind), l[i].Body)...)
	}
	wantScan(t, all, l, len(all))
}

// Scan is not bound to as many as a list of numbers.
func TestP5_3Many(t *testing.T) {
	one := bytesOf(2, nil)
	l := slices.Repeat([]api.Rec{{Kind: 2}}, 20000)
	all := bytes.Repeat(one, len(l))
	wantScan(t, all, l, len(all))
	wantScan(t, all[:len(all)-1], l[1:], len(all)-len(one))
}

// Behind a record that is spoiled nothing is told, though whole ones follow.
func TestP5_3FirstError(t *testing.T) {
	l := []api.Rec{{Kind: 1, Body: []byte("x")}, {Kind: 2}, {Kind: 2, Body: make([]byte, 130)}, {Kind: 255, Body: []byte{1, 2}}}
	var all []byte
	starts := []int{0}
	for _, r := range l {
		all = append(all, bytesOf(byte(r.Kind), r.Body)...)
		starts = append(starts, len(all))
	}
	for place := range all {
		other := slices.Clone(all)
		other[place] ^= 64
		whole := 0
		for starts[whole+1] <= place {
			whole++
		}
		wantScan(t, other, l[:whole], starts[whole])
	}
	for i, start := range starts {
		wantScan(t, slices.Insert(slices.Clone(all), start, 9, 128, 0), l[:i], start)
	}
}

// Scan tells what Get does, record by record, of any bytes.
func TestP5_3AsGet(t *testing.T) {
	read := reader()
	chance := rand.New(rand.NewSource(6))
	for range 3000 {
		var b []byte
		for chance.Intn(5) > 0 {
			b = append(b, bytesOf(byte(chance.Intn(256)), chanceBytes(chance, chance.Intn(20)))...)
			if chance.Intn(5) == 0 {
				b[chance.Intn(len(b))] = byte(chance.Intn(256))
			}
		}
		var want []api.Rec
		at := 0
		for r, end, e := read(b, 0); e == api.OK; r, end, e = read(b, at) {
			want = append(want, r)
			at = end
		}
		wantScan(t, b, want, at)
	}
}

func TestP5_4PutIsGot(t *testing.T) {
	around := [][]byte{nil, {0}, {128}, {7, 0}, bytes.Repeat([]byte{255}, 9), make([]byte, 9), bytesOf(1, []byte{2}), {2, 7, 'm'}}
	for _, r := range sample(rand.New(rand.NewSource(7))) {
		b, is := rec.Put(r)
		if !is {
			t.Fatalf("Put(%v): none", r)
		}
		for _, ahead := range around {
			for _, behind := range around {
				wantGot(t, slices.Concat(ahead, b, behind), len(ahead), r, len(ahead)+len(b))
			}
		}
	}
}

// Whatever record is got is put as the bytes that stand there.
func TestP5_4GotIsPut(t *testing.T) {
	chance := rand.New(rand.NewSource(8))
	got := 0
	for range 20000 {
		kind, size := byte(chance.Intn(256)), chance.Intn(4)
		b := sealed([]byte{kind, byte(size)}, chanceBytes(chance, chance.Intn(4)))
		r, end, e := rec.Get(b, 0)
		if e != api.OK {
			continue
		}
		got++
		wantPut(t, r, b[:end])
	}
	if got < 1000 {
		t.Errorf("only %d records were got", got)
	}
}

// Of records and each beginning of another one Scan tells the whole ones, and where the other one begins.
func TestP5_4Beginnings(t *testing.T) {
	chance := rand.New(rand.NewSource(9))
	var l []api.Rec
	var all []byte
	for _, r := range sample(chance) {
		other, _ := rec.Put(r)
		step := 1 + len(other)/50
		for cut := 0; cut < len(other); cut += step {
			wantScan(t, slices.Concat(all, other[:cut]), l, len(all))
		}
		wantScan(t, slices.Concat(all, other[:len(other)-1]), l, len(all))
		if len(l) < 6 {
			l = append(l, r)
			all = append(all, other...)
		}
	}
}

// A record may hold records: they are told only from where they stand.
func TestP5_4Within(t *testing.T) {
	inner := api.Rec{Kind: 2, Body: []byte("mooring")}
	b, _ := rec.Put(inner)
	outer := api.Rec{Kind: 1, Body: slices.Concat(b, b)}
	all, _ := rec.Put(outer)
	wantGot(t, all, 0, outer, len(all))
	wantGot(t, all, 2, inner, 2+len(b))
	wantGot(t, all, 2+len(b), inner, 2+2*len(b))
	wantScan(t, all, []api.Rec{outer}, len(all))
	wantScan(t, all[2:], []api.Rec{inner, inner}, 2*len(b))
}

// What is handed in stays as it was, also behind its end, and what is answered shares nothing with it.
func TestR3OwnMemory(t *testing.T) {
	room := []byte{1, 2, 3, 4, 5, 6, 7, 8, 9, 10}
	r := api.Rec{Kind: 7, Body: room[:3]}
	b, _ := rec.Put(r)
	rec.Same(r, r)
	_ = append(b, 0)
	if !bytes.Equal(room, []byte{1, 2, 3, 4, 5, 6, 7, 8, 9, 10}) {
		t.Error("a call changed what it was given, or what stands behind it")
	}
	want := bytesOf(7, []byte{1, 2, 3})
	room[0] = 99
	if !bytes.Equal(b, want) {
		t.Error("Put shares what it was given")
	}
	all := slices.Concat(want, want)
	wantAll := slices.Clone(all)
	got, _, _ := rec.Get(all, len(want))
	l, _ := rec.Scan(all)
	for _, x := range append(l, got) {
		_ = append(x.Body, 77)
		x.Body[0] = 88
	}
	if !bytes.Equal(all, wantAll) {
		t.Error("Get or Scan changed what it was given, or an answer shares it")
	}
	got.Body[1], l[0].Body[2] = 66, 55
	if !bytes.Equal(l[0].Body, []byte{88, 2, 55}) || !bytes.Equal(l[1].Body, []byte{88, 2, 3}) || !bytes.Equal(got.Body, []byte{88, 66, 3}) {
		t.Error("two answers share")
	}
	clear(all)
	if l[1].Body[2] != 3 || got.Body[2] != 3 {
		t.Error("an answer shares what was given")
	}
	wantPut(t, api.Rec{Kind: 7}, []byte{7, 0, 200, 135, 229, 248})
}

// An answer's body ends where it ends: what is put behind it by the caller stands elsewhere.
func TestR3BodyHasNoRoom(t *testing.T) {
	for _, size := range sizes() {
		r, _, _ := rec.Get(bytesOf(7, make([]byte, size)), 0)
		one, other := append(r.Body, 1), append(r.Body, 2)
		if one[size] != 1 || other[size] != 2 {
			t.Errorf("behind a body of %d bytes there is room", size)
		}
	}
}
