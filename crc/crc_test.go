package crc_test

import (
	"bytes"
	"hash/crc32"
	"math/bits"
	"math/rand"
	"slices"
	"testing"

	"moorings/crc"
)

const (
	// turn is what the document says a register is exclusive-or'd with.
	turn = 79764919
	// most is the greatest sum.
	most = 1<<32 - 1
)

// nine are the bytes of the document's example.
func nine() []byte { return []byte("123456789") }

// known are bytes and their sums; those of at most one byte, and of four of 255, are worked out by hand.
func known() []struct {
	b   []byte
	sum uint32
} {
	return []struct {
		b   []byte
		sum uint32
	}{
		{nil, 0},
		{[]byte{}, 0},
		{nine(), 4236843288},
		{[]byte{0}, 0xb1f7404b},
		{[]byte{1}, 0xb5365dfc},
		{[]byte{128}, 0xd8fba0a5},
		{[]byte{255}, 0x000000ff},
		{[]byte{255, 255, 255}, 0x00ffffff},
		{[]byte{255, 255, 255, 255}, most},
		{[]byte{255, 255, 255, 255, 0, 0, 0}, most},
		{[]byte{255, 255, 255, 255, 1}, most ^ turn},
		{[]byte{0, 0, 0, 0}, 0x38fb2284},
	}
}

// otherWay is the sum by another way: by the library's sums, which take each byte's lowest bit first.
func otherWay(b []byte) uint32 {
	turned := make([]byte, len(b))
	for i := range b {
		turned[i] = bits.Reverse8(b[i])
	}
	return bits.Reverse32(crc32.ChecksumIEEE(turned))
}

// withSum are the bytes ahead and four more, that have a sum together: the register is gone back from the sum, 32 bits of 0.
func withSum(ahead []byte, sum uint32) []byte {
	r := ^sum
	for range 32 {
		if kept := r & 1; kept == 1 {
			r = (r^turn)>>1 | 1<<31
		} else {
			r >>= 1
		}
	}
	return slices.Concat(ahead, four(r^^otherWay(ahead)))
}

// four are a sum's bytes.
func four(sum uint32) []byte {
	return []byte{byte(sum >> 24), byte(sum >> 16), byte(sum >> 8), byte(sum)}
}

// chanceBytes are n bytes, many of them 0 or 255.
func chanceBytes(chance *rand.Rand, n int) []byte {
	b := make([]byte, n)
	for i := range b {
		switch chance.Intn(6) {
		case 0:
		case 1:
			b[i] = 255
		default:
			b[i] = byte(chance.Intn(256))
		}
	}
	return b
}

// burst are bytes with the bits of a pattern turned, its highest one at a place; false if it ends behind the last bit.
func burst(b []byte, at int, pattern uint64) ([]byte, bool) {
	l := slices.Clone(b)
	for i := range 64 {
		if pattern>>(63-i)&1 == 0 {
			continue
		}
		if (at+i)/8 >= len(b) {
			return nil, false
		}
		l[(at+i)/8] ^= 128 >> ((at + i) % 8)
	}
	return l, true
}

// patterns are some bits within 32, the first of them 1, in the highest bits of 64.
func patterns(chance *rand.Rand) []uint64 {
	l := []uint64{1 << 31, 1<<31 | 1, most, turn | 1<<31, turn << 5, 0xedb88320}
	for wide := range 32 {
		l = append(l, 1<<31|1<<wide, most&^(1<<wide-1))
	}
	for range 20 {
		l = append(l, uint64(chance.Uint32()|1<<31), uint64(chance.Uint32()|1<<31|1))
	}
	for i := range l {
		l[i] <<= 32 + bits.LeadingZeros32(uint32(l[i]))
	}
	return l
}

func wantSum(t *testing.T, b []byte, want uint32) {
	t.Helper()
	if sum := crc.Sum(b); sum != want {
		t.Errorf("Sum(%v): %08x, not %08x", b, sum, want)
	}
}

func wantMore(t *testing.T, sum uint32, b []byte, want uint32) {
	t.Helper()
	if more := crc.More(sum, b); more != want {
		t.Errorf("More(%08x, %v): %08x, not %08x", sum, b, more, want)
	}
}

func wantSealed(t *testing.T, b, want []byte) {
	t.Helper()
	if sealed := crc.Seal(b); !bytes.Equal(sealed, want) {
		t.Errorf("Seal(%v): %v, not %v", b, sealed, want)
	}
}

func wantOpened(t *testing.T, b, want []byte) {
	t.Helper()
	if opened, is := crc.Open(b); !is || !bytes.Equal(opened, want) {
		t.Errorf("Open(%v): %v, %t, not %v", b, opened, is, want)
	}
}

func wantNotOpened(t *testing.T, b []byte) {
	t.Helper()
	if opened, is := crc.Open(b); is || len(opened) != 0 {
		t.Errorf("Open(%v): %v, %t", b, opened, is)
	}
}

func TestP4_1Known(t *testing.T) {
	for _, x := range known() {
		wantSum(t, x.b, x.sum)
		wantMore(t, 0, x.b, x.sum)
		if other := otherWay(x.b); other != x.sum {
			t.Errorf("the other way's sum of %v: %08x, not %08x", x.b, other, x.sum)
		}
	}
}

// All of one byte and of two have the sums that they have by another way.
func TestP4_1AllShort(t *testing.T) {
	for first := range 256 {
		one := []byte{byte(first)}
		wantSum(t, one, otherWay(one))
		for second := range 256 {
			two := []byte{byte(first), byte(second)}
			wantSum(t, two, otherWay(two))
		}
	}
}

// Bytes of all lengths up to 300, and of some others, have the sums that they have by another way.
func TestP4_1AllLengths(t *testing.T) {
	chance := rand.New(rand.NewSource(1))
	for n := range 304 {
		if n > 300 {
			n = 1 << (n - 291)
		}
		b := chanceBytes(chance, n)
		if sum := crc.Sum(b); sum != otherWay(b) {
			t.Errorf("Sum of %d bytes: %08x, not %08x", n, sum, otherWay(b))
		}
	}
	great := chanceBytes(chance, 1<<20+3)
	if sum := crc.Sum(great); sum != otherWay(great) {
		t.Errorf("Sum of 2^20 bytes and 3: %08x", sum)
	}
}

// Bytes of 0 alone have sums of their own, each number of them another one; ahead of others and behind them they count too.
func TestP4_1Noughts(t *testing.T) {
	alone, ahead, behind := map[uint32]int{}, map[uint32]int{}, map[uint32]int{}
	for n := range 300 {
		noughts := make([]byte, n)
		for _, x := range []struct {
			seen map[uint32]int
			b    []byte
		}{
			{alone, noughts},
			{ahead, slices.Concat(noughts, nine())},
			{behind, slices.Concat(nine(), noughts)},
		} {
			sum := crc.Sum(x.b)
			if sum != otherWay(x.b) {
				t.Errorf("Sum(%v): %08x", x.b, sum)
			}
			if other, is := x.seen[sum]; is {
				t.Errorf("%d and %d bytes of 0: both times %08x", other, n, sum)
			}
			x.seen[sum] = n
		}
	}
}

// Of no bytes More tells the sum it was given, whatever that is.
func TestP4_1MoreOfNone(t *testing.T) {
	chance := rand.New(rand.NewSource(2))
	for _, sum := range []uint32{0, 1, 77, turn, 1 << 31, most - 1, most, chance.Uint32(), chance.Uint32()} {
		wantMore(t, sum, nil, sum)
		wantMore(t, sum, []byte{}, sum)
	}
}

// Sums of all kinds, also 0 and the greatest, are those of some bytes, and More tells what they and others have together.
func TestP4_1MoreOfAnySum(t *testing.T) {
	chance := rand.New(rand.NewSource(3))
	sums := []uint32{0, 1, 2, turn, most ^ turn, 1 << 31, 1<<31 - 1, most - 1, most}
	for range 200 {
		sums = append(sums, chance.Uint32())
	}
	for _, sum := range sums {
		for _, n := range []int{0, 1, 5, 40} {
			ahead := withSum(chanceBytes(chance, n), sum)
			wantSum(t, ahead, sum)
			for _, b := range [][]byte{{0}, {1}, {128}, {255}, {0, 0, 0, 0}, nine(), chanceBytes(chance, 30)} {
				wantMore(t, sum, b, otherWay(slices.Concat(ahead, b)))
			}
		}
	}
	wantMore(t, most, make([]byte, 100), most)
	wantMore(t, most, []byte{1}, most^turn)
	wantMore(t, 0, []byte{0}, 0xb1f7404b)
	wantMore(t, 0, nine(), 4236843288)
}

func TestP4_2Known(t *testing.T) {
	for _, x := range known() {
		sealed := slices.Concat(x.b, four(x.sum))
		wantSealed(t, x.b, sealed)
		wantOpened(t, sealed, x.b)
	}
	wantSealed(t, nine(), append(nine(), 0xfc, 0x89, 0x19, 0x18))
	wantSealed(t, nil, []byte{0, 0, 0, 0})
	wantSealed(t, []byte{}, []byte{0, 0, 0, 0})
	wantOpened(t, []byte{0, 0, 0, 0}, nil)
}

func TestP4_2SealedIsOpened(t *testing.T) {
	chance := rand.New(rand.NewSource(4))
	for range 2000 {
		b := chanceBytes(chance, chance.Intn(1+chance.Intn(300)))
		sealed := slices.Concat(b, four(otherWay(b)))
		wantSealed(t, b, sealed)
		wantOpened(t, sealed, b)
		wantOpened(t, crc.Seal(sealed), sealed)
	}
	great := crc.Seal(make([]byte, 1<<16))
	if b, is := crc.Open(great); !is || !bytes.Equal(b, make([]byte, 1<<16)) {
		t.Errorf("2^16 bytes of 0: %d, %t", len(b), is)
	}
}

// Fewer than four bytes are no Seal, whatever they are.
func TestP4_2OpenTooShort(t *testing.T) {
	wantNotOpened(t, nil)
	wantNotOpened(t, []byte{})
	for first := range 256 {
		wantNotOpened(t, []byte{byte(first)})
		for second := range 256 {
			wantNotOpened(t, []byte{byte(first), byte(second)})
		}
	}
	chance := rand.New(rand.NewSource(5))
	for range 10000 {
		wantNotOpened(t, chanceBytes(chance, 3))
	}
	for _, c := range []byte{0, 1, 128, 255} {
		wantNotOpened(t, []byte{c, c, c})
	}
}

// Of four bytes only those of 0 are a Seal: all others are not the sum of no bytes.
func TestP4_2OpenFour(t *testing.T) {
	for bit := range 32 {
		wantNotOpened(t, four(1<<bit))
		wantNotOpened(t, four(most^1<<bit))
	}
	wantNotOpened(t, four(most))
	for c := range 256 {
		want := four(otherWay([]byte{byte(c)}))
		wantOpened(t, slices.Concat([]byte{byte(c)}, want), []byte{byte(c)})
		wantNotOpened(t, want)
	}
}

// One bit another one, in the bytes or in the sum's own, and nothing is opened.
func TestP4_2OpenOtherBit(t *testing.T) {
	for _, b := range [][]byte{nil, {0}, {255}, make([]byte, 9), nine(), []byte("mooring"), bytes.Repeat([]byte{255}, 40)} {
		sealed := crc.Seal(b)
		for at := range 8 * len(sealed) {
			other, _ := burst(sealed, at, 1<<63)
			wantNotOpened(t, other)
		}
	}
}

// No order of a sum's bytes but its own will do, and neither will the sum with its bits turned, or that of other bytes.
func TestP4_2OpenOtherSum(t *testing.T) {
	for _, b := range [][]byte{nine(), {0}, {1}, []byte("mooring"), make([]byte, 20)} {
		sum := crc.Seal(b)[len(b):]
		for i := range 256 {
			places := []int{i & 3, i >> 2 & 3, i >> 4 & 3, i >> 6 & 3}
			other := []byte{sum[places[0]], sum[places[1]], sum[places[2]], sum[places[3]]}
			if !bytes.Equal(other, sum) {
				wantNotOpened(t, slices.Concat(b, other))
			}
		}
		whole := crc.Sum(b)
		for _, other := range []uint32{^whole, whole + 1, whole - 1, bits.Reverse32(whole), 0, most, crc.More(whole, []byte{0})} {
			wantNotOpened(t, slices.Concat(b, four(other)))
		}
		wantNotOpened(t, slices.Concat(sum, b))
		wantNotOpened(t, b)
	}
}

// A byte more, or less, wherever it is, and nothing is opened.
func TestP4_2OpenOtherLength(t *testing.T) {
	for _, b := range [][]byte{{7}, nine(), []byte("mooring"), {1, 2, 3, 4, 5, 6, 7, 8, 9, 10}} {
		sealed := crc.Seal(b)
		for at := range len(sealed) + 1 {
			for c := range 256 {
				more := slices.Insert(slices.Clone(sealed), at, byte(c))
				wantNotOpened(t, more)
			}
			if at < len(sealed) {
				wantNotOpened(t, slices.Delete(slices.Clone(sealed), at, at+1))
				wantNotOpened(t, sealed[:at])
			}
		}
		wantNotOpened(t, slices.Concat(sealed, sealed))
	}
	// Of no bytes, and a byte of 0 more or less, no sum is 0 either.
	for n := range 50 {
		if n != 4 {
			wantNotOpened(t, make([]byte, n))
		}
	}
}

// Whatever bytes are opened are the Seal of what is told, and all that are one are opened.
func TestP4_2OpenAny(t *testing.T) {
	chance := rand.New(rand.NewSource(6))
	opened := 0
	for range 20000 {
		b := chanceBytes(chance, chance.Intn(20))
		if chance.Intn(2) == 0 {
			b = crc.Seal(b)
		}
		if chance.Intn(2) == 0 && len(b) > 0 {
			b[chance.Intn(len(b))] ^= byte(chance.Intn(256))
		}
		end := max(len(b)-4, 0)
		want := len(b) >= 4 && bytes.Equal(b[end:], four(otherWay(b[:end])))
		if !want {
			wantNotOpened(t, b)
			continue
		}
		opened++
		wantOpened(t, b, b[:end])
	}
	if opened < 1000 || opened > 19000 {
		t.Errorf("%d of the bytes were opened", opened)
	}
}

// Bits within 32 turned, anywhere in bytes, the first and the last ones too, make another sum.
func TestP4_3Burst(t *testing.T) {
	chance := rand.New(rand.NewSource(7))
	for _, b := range [][]byte{{0}, {255, 0}, make([]byte, 4), nine(), make([]byte, 9), bytes.Repeat([]byte{255}, 12), chanceBytes(chance, 40)} {
		sum := crc.Sum(b)
		for _, pattern := range patterns(chance) {
			for at := range 8 * len(b) {
				if other, is := burst(b, at, pattern); is && crc.Sum(other) == sum {
					t.Errorf("%v and %v: both %08x", b, other, sum)
				}
			}
		}
	}
}

// In all ways to turn the last two bytes' bits, or any two neighbours', another sum is made.
func TestP4_3BurstOfTwoBytes(t *testing.T) {
	for _, b := range [][]byte{{0, 0}, nine()} {
		for at := range len(b) - 1 {
			sums := map[uint32]int{}
			other := slices.Clone(b)
			for k := range 1 << 16 {
				other[at], other[at+1] = byte(k>>8), byte(k)
				sum := crc.Sum(other)
				if k0, is := sums[sum]; is {
					t.Fatalf("%v: at %d %d and %d make the same sum", b, at, k0, k)
				}
				sums[sum] = k
			}
		}
	}
}

// Bits within 32 turned in what is sealed, the sum's own among them, and nothing is opened.
func TestP4_3BurstOfSealed(t *testing.T) {
	chance := rand.New(rand.NewSource(8))
	for _, b := range [][]byte{nil, {0}, nine(), make([]byte, 9), chanceBytes(chance, 30)} {
		sealed := crc.Seal(b)
		for _, pattern := range patterns(chance) {
			for at := range 8 * len(sealed) {
				if other, is := burst(sealed, at, pattern); is {
					wantNotOpened(t, other)
				}
			}
		}
	}
}

// Of 33 bits, one behind the other, there are such ones that make the same sum: 1, and what the register is turned by; of just these the bytes are opened, as they are the Seal of what they hold.
func TestP4_3Burst33(t *testing.T) {
	for _, b := range [][]byte{{0}, nine(), make([]byte, 9)} {
		sealed := crc.Seal(b)
		count := 0
		for at := range 8 * len(sealed) {
			other, is := burst(sealed, at, 1<<63|turn<<31)
			if !is {
				continue
			}
			count++
			wantOpened(t, other, other[:len(b)])
			if at+33 <= 8*len(b) {
				wantSum(t, other[:len(b)], crc.Sum(b))
			}
		}
		if count != 8*len(b) {
			t.Errorf("%d places", count)
		}
	}
}

func TestP4_3MoreGoesOn(t *testing.T) {
	chance := rand.New(rand.NewSource(9))
	for range 2000 {
		b := chanceBytes(chance, chance.Intn(60))
		sum := crc.Sum(b)
		first := chance.Intn(len(b) + 1)
		second := first + chance.Intn(len(b)+1-first)
		wantMore(t, crc.Sum(b[:first]), b[first:], sum)
		wantMore(t, crc.More(crc.Sum(b[:first]), b[first:second]), b[second:], sum)
		one := uint32(0)
		for i := range b {
			one = crc.More(one, b[i:i+1])
		}
		if one != sum {
			t.Errorf("%v, byte by byte: %08x, not %08x", b, one, sum)
		}
	}
}

// What is handed in stays as it was, also behind its end, what is answered shares nothing with it, and no call hangs on the ones ahead.
func TestR3OwnMemory(t *testing.T) {
	room := append(nine(), 1, 2, 3, 4, 5, 6, 7, 8)
	b := room[:9]
	sealed := crc.Seal(b)
	crc.Sum(b)
	crc.More(5, b)
	if !bytes.Equal(room, append(nine(), 1, 2, 3, 4, 5, 6, 7, 8)) {
		t.Error("a call changed what it was given, or what stands behind it")
	}
	b[0] = 0
	if !bytes.Equal(sealed, append(nine(), 0xfc, 0x89, 0x19, 0x18)) {
		t.Error("Seal shares what it was given")
	}
	opened, _ := crc.Open(sealed)
	_ = append(opened, 0)
	if !bytes.Equal(sealed, append(nine(), 0xfc, 0x89, 0x19, 0x18)) {
		t.Error("Open changed what it was given, or its answer shares room with it")
	}
	sealed[0], opened[1] = 0, 0
	if opened[0] != '1' || sealed[1] != '2' {
		t.Error("Open shares what it was given")
	}
	none := append(make([]byte, 0, 8), 0, 0, 0, 0, 9)
	empty, _ := crc.Open(none[:4])
	_ = append(empty, 7)
	_ = append(crc.Seal(none[:0]), 7)
	if !bytes.Equal(none, []byte{0, 0, 0, 0, 9}) {
		t.Error("of no bytes the answer shares room with what was given")
	}
	crc.Open([]byte{1, 2, 3, 4, 5})
	wantSum(t, nine(), 4236843288)
	wantMore(t, 0, nine(), 4236843288)
	wantSealed(t, nil, []byte{0, 0, 0, 0})
}
