package addr_test

import (
	"math"
	"math/rand"
	"net/netip"
	"slices"
	"strconv"
	"strings"
	"testing"

	"moorings/addr"
	"moorings/api"
)

const (
	// top is the greatest address.
	top = 1<<32 - 1
	// ten is the first address of most examples.
	ten = 10 << 24
)

func prefix(base, bits int) api.Prefix { return api.Prefix{Base: base, Bits: bits} }

// goods are prefixes that may be, and their texts; most of them are at an edge.
func goods() []struct {
	p api.Prefix
	s string
} {
	return []struct {
		p api.Prefix
		s string
	}{
		{prefix(0, 0), "0.0.0.0/0"},
		{prefix(0, 1), "0.0.0.0/1"},
		{prefix(1<<31, 1), "128.0.0.0/1"},
		{prefix(3<<30, 2), "192.0.0.0/2"},
		{prefix(0, 8), "0.0.0.0/8"},
		{prefix(ten, 8), "10.0.0.0/8"},
		{prefix(255<<24, 8), "255.0.0.0/8"},
		{prefix(ten, 9), "10.0.0.0/9"},
		{prefix(ten+1<<23, 9), "10.128.0.0/9"},
		{prefix(ten, 10), "10.0.0.0/10"},
		{prefix(ten+1<<22, 10), "10.64.0.0/10"},
		{prefix(172<<24+16<<16, 12), "172.16.0.0/12"},
		{prefix(192<<24+168<<16, 16), "192.168.0.0/16"},
		{prefix(203<<24+113<<8, 24), "203.0.113.0/24"},
		{prefix(ten, 27), "10.0.0.0/27"},
		{prefix(ten+32, 27), "10.0.0.32/27"},
		{prefix(ten+16, 28), "10.0.0.16/28"},
		{prefix(ten, 31), "10.0.0.0/31"},
		{prefix(top-1, 31), "255.255.255.254/31"},
		{prefix(0, 32), "0.0.0.0/32"},
		{prefix(1, 32), "0.0.0.1/32"},
		{prefix(ten+9, 32), "10.0.0.9/32"},
		{prefix(top-1, 32), "255.255.255.254/32"},
		{prefix(top, 32), "255.255.255.255/32"},
	}
}

// bads are prefixes that may not be, each for one reason, or for two.
func bads() []api.Prefix {
	l := []api.Prefix{
		prefix(-1, 32), prefix(-2, 31), prefix(-32, 27), prefix(-1<<31, 1), prefix(-1<<32, 0), prefix(-1<<33, 0), prefix(math.MinInt, 0), prefix(math.MinInt, 32),
		prefix(1<<32, 0), prefix(1<<32, 1), prefix(1<<32, 32), prefix(1<<32+1, 32), prefix(1<<32+ten, 27), prefix(1<<40, 0), prefix(1<<62, 0), prefix(math.MaxInt, 32), prefix(math.MaxInt, 0),
		prefix(1, 0), prefix(1<<31, 0), prefix(top, 0), prefix(1<<30, 1), prefix(3<<30, 1), prefix(top, 1), prefix(ten, 6), prefix(ten+1<<22, 9), prefix(ten+1, 27), prefix(ten+16, 27), prefix(ten+31, 27), prefix(ten+33, 27), prefix(1, 31), prefix(top, 31),
		prefix(-1, -1), prefix(1<<32, 33), prefix(-1<<32, -1), prefix(1, -1), prefix(1<<32, -1),
	}
	for _, bits := range []int{-1, -2, -8, -32, -64, math.MinInt, 33, 34, 40, 64, 65, 96, 1 << 32, math.MaxInt} {
		l = append(l, prefix(0, bits), prefix(ten, bits), prefix(top, bits))
	}
	return l
}

// edges are numbers around all that the chapter names, and far from it.
func edges() []int {
	return []int{math.MinInt, math.MinInt + 1, -1 << 33, -1 << 32, -1<<32 + 1, -1 << 31, -32, -1, 0, 1, 2, 8, 31, 32, 33, 63, 64, 65, ten - 1, ten, ten + 1, ten + 31, ten + 32, 1<<31 - 1, 1 << 31, top - 1, top, 1 << 32, 1<<32 + 1, 1<<32 + ten, 1 << 33, 1 << 40, 1 << 62, math.MaxInt - 1, math.MaxInt}
}

// size is how many addresses a prefix that may be has, by doubling.
func size(p api.Prefix) int {
	n := 1
	for range 32 - p.Bits {
		n *= 2
	}
	return n
}

// chanceAddress is an address, many of them with bytes at an edge.
func chanceAddress(chance *rand.Rand) int {
	bytes := []int{0, 1, 9, 10, 99, 100, 199, 200, 249, 250, 255}
	a := 0
	for range 4 {
		if chance.Intn(3) == 0 {
			a = a*256 + chance.Intn(256)
		} else {
			a = a*256 + bytes[chance.Intn(len(bytes))]
		}
	}
	return a
}

// chancePrefix is a prefix that may be.
func chancePrefix(chance *rand.Rand) api.Prefix {
	p := prefix(chanceAddress(chance), chance.Intn(33))
	p.Base -= p.Base % size(p)
	return p
}

// number is an address of the library's as a number.
func number(a netip.Addr) int {
	n := 0
	for _, b := range a.As4() {
		n = 256*n + int(b)
	}
	return n
}

// otherRead is the address of a text by another way: by the library's.
func otherRead(s string) (int, bool) {
	a, err := netip.ParseAddr(s)
	if err != nil || !a.Is4() {
		return 0, false
	}
	return number(a), true
}

// otherReadAll is the prefix of a text by another way: by the library's.
func otherReadAll(s string) (api.Prefix, bool) {
	p, err := netip.ParsePrefix(s)
	if err != nil || !p.Addr().Is4() || p != p.Masked() {
		return api.Prefix{}, false
	}
	return prefix(number(p.Addr()), p.Bits()), true
}

func wantNth(t *testing.T, p api.Prefix, i, want int) {
	t.Helper()
	if a, is := addr.Nth(p, i); !is || a != want {
		t.Errorf("Nth(%v, %d): %d, %t, not %d", p, i, a, is, want)
	}
}

func wantNoNth(t *testing.T, p api.Prefix, i int) {
	t.Helper()
	if a, is := addr.Nth(p, i); is || a != 0 {
		t.Errorf("Nth(%v, %d): %d, %t", p, i, a, is)
	}
}

func wantIndex(t *testing.T, p api.Prefix, a, want int) {
	t.Helper()
	if i := addr.Index(p, a); i != want {
		t.Errorf("Index(%v, %d): %d, not %d", p, a, i, want)
	}
}

// wantMeet asks both ways round.
func wantMeet(t *testing.T, p, q api.Prefix, want bool) {
	t.Helper()
	if addr.Meet(p, q) != want || addr.Meet(q, p) != want {
		t.Errorf("Meet(%v, %v): %t, %t, not %t", p, q, addr.Meet(p, q), addr.Meet(q, p), want)
	}
}

func wantText(t *testing.T, a int, want string) {
	t.Helper()
	if s := addr.Text(a); s != want {
		t.Errorf("Text(%d): %q, not %q", a, s, want)
	}
}

func wantTextAll(t *testing.T, p api.Prefix, want string) {
	t.Helper()
	if s := addr.TextAll(p); s != want {
		t.Errorf("TextAll(%v): %q, not %q", p, s, want)
	}
}

func wantRead(t *testing.T, s string, want int) {
	t.Helper()
	if a, is := addr.Read(s); !is || a != want {
		t.Errorf("Read(%q): %d, %t, not %d", s, a, is, want)
	}
}

func wantNotRead(t *testing.T, s string) {
	t.Helper()
	if a, is := addr.Read(s); is || a != 0 {
		t.Errorf("Read(%q): %d, %t", s, a, is)
	}
}

func wantReadAll(t *testing.T, s string, want api.Prefix) {
	t.Helper()
	if p, is := addr.ReadAll(s); !is || p != want {
		t.Errorf("ReadAll(%q): %v, %t, not %v", s, p, is, want)
	}
}

func wantNotReadAll(t *testing.T, s string) {
	t.Helper()
	if p, is := addr.ReadAll(s); is || p != (api.Prefix{}) {
		t.Errorf("ReadAll(%q): %v, %t", s, p, is)
	}
}

func TestP7_1May(t *testing.T) {
	for _, x := range goods() {
		if !addr.May(x.p) {
			t.Errorf("may not be: %v", x.p)
		}
	}
	for _, p := range bads() {
		if addr.May(p) {
			t.Errorf("may be: %v", p)
		}
	}
}

// For all Bits, just those Bases will do that so many addresses divide, from the first to the last one.
func TestP7_1MayAllBits(t *testing.T) {
	for bits := range 33 {
		each := size(prefix(0, bits))
		for _, base := range []int{0, each, 2 * each, 1<<32 - 2*each, 1<<32 - each, 1 << 31, ten} {
			for _, step := range []int{0, 1, 2, each / 2, each - 1} {
				other := base + step
				want := other >= 0 && other < 1<<32 && other%each == 0
				if addr.May(prefix(other, bits)) != want {
					t.Errorf("%d, %d: not %t", other, bits, want)
				}
			}
		}
		for _, base := range []int{-each, -1, 1 << 32, 1<<32 + each} {
			if addr.May(prefix(base, bits)) {
				t.Errorf("%d, %d: may be", base, bits)
			}
		}
	}
}

func TestP7_1Size(t *testing.T) {
	for _, x := range []struct{ bits, size int }{
		{0, 4294967296}, {1, 2147483648}, {2, 1073741824}, {8, 16777216}, {9, 8388608}, {10, 4194304}, {16, 65536}, {24, 256}, {27, 32}, {28, 16}, {30, 4}, {31, 2}, {32, 1},
	} {
		if n := addr.Size(prefix(0, x.bits)); n != x.size {
			t.Errorf("Size at %d Bits: %d, not %d", x.bits, n, x.size)
		}
	}
	for _, x := range goods() {
		if n := addr.Size(x.p); n != size(x.p) {
			t.Errorf("Size(%v): %d, not %d", x.p, n, size(x.p))
		}
	}
	for _, p := range bads() {
		if n := addr.Size(p); n != 0 {
			t.Errorf("Size(%v): %d, not 0", p, n)
		}
	}
}

func TestP7_1NthKnown(t *testing.T) {
	p := prefix(ten, 27)
	wantNth(t, p, 0, 167772160)
	wantNth(t, p, 1, 167772161)
	wantNth(t, p, 17, 167772177)
	wantNth(t, p, 31, 167772191)
	wantNoNth(t, p, -1)
	wantNoNth(t, p, 32)
	wantNth(t, prefix(0, 0), 0, 0)
	wantNth(t, prefix(0, 0), ten, ten)
	wantNth(t, prefix(0, 0), 4294967295, 4294967295)
	wantNoNth(t, prefix(0, 0), 4294967296)
	wantNth(t, prefix(4294967295, 32), 0, 4294967295)
	wantNoNth(t, prefix(4294967295, 32), 1)
	wantNoNth(t, prefix(4294967295, 32), -1)
}

// The first place, the last one, and one between are an address's, those outside are none's.
func TestP7_1NthAndIndex(t *testing.T) {
	for _, x := range goods() {
		n := size(x.p)
		for _, i := range []int{0, n / 3, n / 2, n - 1} {
			wantNth(t, x.p, i, x.p.Base+i)
			wantIndex(t, x.p, x.p.Base+i, i)
		}
		for _, i := range []int{-1, -2, -n, n, n + 1, 2 * n, 1 << 40, math.MaxInt, math.MaxInt - x.p.Base + 1, math.MinInt, math.MinInt + 1, -x.p.Base - 1} {
			wantNoNth(t, x.p, i)
			wantIndex(t, x.p, x.p.Base+i, -1)
		}
	}
}

func TestP7_1IndexOfNone(t *testing.T) {
	for _, x := range goods() {
		for _, a := range []int{-1, -2, -1 << 32, math.MinInt, math.MinInt + 1, 1 << 32, 1<<32 + 1, 1 << 40, math.MaxInt, x.p.Base + 1<<32, x.p.Base - 1<<32, x.p.Base - 1, x.p.Base + size(x.p)} {
			wantIndex(t, x.p, a, -1)
		}
	}
}

// A prefix that may not be has no place, and no address.
func TestP7_1NthAndIndexOfBad(t *testing.T) {
	for _, p := range bads() {
		for _, i := range edges() {
			wantNoNth(t, p, i)
			wantIndex(t, p, i, -1)
			wantIndex(t, p, p.Base+i, -1)
		}
	}
}

func TestP7_1MeetKnown(t *testing.T) {
	all, p := prefix(0, 0), prefix(ten, 27)
	for _, q := range []api.Prefix{p, all, prefix(ten, 8), prefix(ten, 26), prefix(ten, 28), prefix(ten+16, 28), prefix(ten, 32), prefix(ten+15, 32), prefix(ten+31, 32)} {
		wantMeet(t, p, q, true)
	}
	for _, q := range []api.Prefix{prefix(ten+32, 27), prefix(ten-32, 27), prefix(ten+32, 28), prefix(ten-16, 28), prefix(ten+32, 32), prefix(ten-1, 32), prefix(ten-1<<23, 9), prefix(11<<24, 8), prefix(9<<24, 8), prefix(0, 32), prefix(top, 32), prefix(ten+1<<8, 27)} {
		wantMeet(t, p, q, false)
	}
	wantMeet(t, prefix(0, 1), prefix(1<<31, 1), false)
	wantMeet(t, prefix(1<<31-1, 32), prefix(1<<31, 32), false)
	wantMeet(t, prefix(1<<31-1, 32), prefix(1<<31, 1), false)
	wantMeet(t, prefix(top, 32), prefix(1<<31, 1), true)
	wantMeet(t, prefix(0, 32), prefix(0, 32), true)
	wantMeet(t, prefix(0, 32), prefix(top, 32), false)
	wantMeet(t, prefix(top-1, 31), prefix(top, 32), true)
}

// Every prefix meets itself, and the one of all; none that may not be meets one, itself neither.
func TestP7_1MeetGoodAndBad(t *testing.T) {
	for _, x := range goods() {
		wantMeet(t, x.p, x.p, true)
		wantMeet(t, x.p, prefix(0, 0), true)
		for _, y := range goods() {
			first, last := max(x.p.Base, y.p.Base), min(x.p.Base+size(x.p), y.p.Base+size(y.p))-1
			wantMeet(t, x.p, y.p, first <= last)
		}
	}
	for _, p := range bads() {
		wantMeet(t, p, p, false)
		for _, x := range goods() {
			wantMeet(t, p, x.p, false)
		}
		for _, q := range bads() {
			wantMeet(t, p, q, false)
		}
	}
}

// small are all prefixes of at most 32 addresses, of the 64 around 10.0.0.0, each with its addresses.
func small() ([]api.Prefix, [][]int) {
	var l []api.Prefix
	var all [][]int
	for bits := 27; bits <= 32; bits++ {
		for base := ten - 32; base < ten+32; base += size(prefix(0, bits)) {
			var each []int
			for i := range size(prefix(base, bits)) {
				each = append(each, base+i)
			}
			l, all = append(l, prefix(base, bits)), append(all, each)
		}
	}
	return l, all
}

// Two small ones meet just if one address is in both their lists; and their places, and Indexes, are those of the lists.
func TestP7_1SmallAll(t *testing.T) {
	l, all := small()
	for i, p := range l {
		for k := -5; k < 40; k++ {
			if k >= 0 && k < len(all[i]) {
				wantNth(t, p, k, all[i][k])
			} else {
				wantNoNth(t, p, k)
			}
		}
		for a := ten - 40; a < ten+40; a++ {
			wantIndex(t, p, a, slices.Index(all[i], a))
		}
		for j, q := range l {
			wantMeet(t, p, q, slices.ContainsFunc(all[i], func(a int) bool { return slices.Contains(all[j], a) }))
		}
	}
}

// known are addresses and their texts.
func known() []struct {
	a int
	s string
} {
	return []struct {
		a int
		s string
	}{
		{0, "0.0.0.0"},
		{1, "0.0.0.1"},
		{9, "0.0.0.9"},
		{10, "0.0.0.10"},
		{99, "0.0.0.99"},
		{100, "0.0.0.100"},
		{255, "0.0.0.255"},
		{256, "0.0.1.0"},
		{65535, "0.0.255.255"},
		{65536, "0.1.0.0"},
		{1 << 24, "1.0.0.0"},
		{167772160, "10.0.0.0"},
		{167772169, "10.0.0.9"},
		{16909060, "1.2.3.4"},
		{67305985, "4.3.2.1"},
		{18113536, "1.20.100.0"},
		{2130706433, "127.0.0.1"},
		{1<<31 - 1, "127.255.255.255"},
		{1 << 31, "128.0.0.0"},
		{3232235777, "192.168.1.1"},
		{4294967294, "255.255.255.254"},
		{4294967295, "255.255.255.255"},
	}
}

func TestP7_2Known(t *testing.T) {
	for _, x := range known() {
		wantText(t, x.a, x.s)
		wantRead(t, x.s, x.a)
		wantTextAll(t, prefix(x.a, 32), x.s+"/32")
		wantReadAll(t, x.s+"/32", prefix(x.a, 32))
	}
	for _, x := range goods() {
		wantTextAll(t, x.p, x.s)
		wantReadAll(t, x.s, x.p)
	}
}

func TestP7_2TextOfNone(t *testing.T) {
	for _, a := range []int{-1, -2, -255, -1 << 31, -1 << 32, math.MinInt, 1 << 32, 1<<32 + 1, 1<<32 + ten, 1 << 40, 1 << 62, math.MaxInt} {
		wantText(t, a, "")
	}
	for _, p := range bads() {
		wantTextAll(t, p, "")
	}
}

// Every byte has its digits, at each of the four places, and no other number has any.
func TestP7_2EachByte(t *testing.T) {
	parts := []string{"7", "70", "0", "255"}
	bytes := []int{7, 70, 0, 255}
	for at := range parts {
		for n := -10; n < 1300; n++ {
			l, a := slices.Clone(parts), 0
			l[at] = strconv.Itoa(n)
			for i, b := range bytes {
				if i == at {
					b = n
				}
				a = 256*a + b
			}
			s := strings.Join(l, ".")
			if n < 0 || n > 255 {
				wantNotRead(t, s)
				continue
			}
			wantRead(t, s, a)
			wantText(t, a, s)
			for _, noughts := range []string{"0", "00", "000", "0000000000000000000000"} {
				l[at] = noughts + strconv.Itoa(n)
				wantNotRead(t, strings.Join(l, "."))
			}
		}
	}
}

// Every number of Bits has its digits, and no other number has any.
func TestP7_2EachBits(t *testing.T) {
	for bits := -5; bits < 1300; bits++ {
		s := "0.0.0.0/" + strconv.Itoa(bits)
		if bits < 0 || bits > 32 {
			wantNotReadAll(t, s)
			continue
		}
		wantReadAll(t, s, prefix(0, bits))
		wantTextAll(t, prefix(0, bits), s)
		for _, noughts := range []string{"0", "00", "000", "0000000000000000000000"} {
			wantNotReadAll(t, "0.0.0.0/"+noughts+strconv.Itoa(bits))
		}
	}
}

// parts are what no byte, and no number of Bits, has as its digits.
func parts() []string {
	return []string{
		"", "00", "01", "010", "000", "09", "001", "256", "257", "299", "300", "999", "1000", "1255", "2550", "0255", "9999", "65536", "4294967295", "4294967296", "4294967297", "9223372036854775807", "9223372036854775808", "18446744073709551615", "18446744073709551616", "18446744073709551617", "36893488147419103233", "-18446744073709551615", strings.Repeat("1", 1000), strings.Repeat("9", 400), strings.Repeat("0", 1000),
		"+1", "-1", "+0", "-0", "+", "-", "1+", "1-", "--1", "−1", "+12", "-12",
		" 1", "1 ", " ", "\t1", "1\t", "1\n", "\n1", "1\r", "1\x00", "\x001", "\x00", "\u00a01", "1\u00a0", "\u20031", "1 2", "\ufeff1",
		"a", "A", "f", "1a", "a1", "0x1", "0X1", "x1", "1x", "0b1", "0o1", "1_0", "_1", "1_", "1e1", "1e0", "1,0", "1:", ":1", ";", "/", "1/", "1'0", "\"1\"", "*", "?",
		"\u0664", "1\u0664", "\u06641", "\u0661", "\u0967", "\u09e7", "\uff11", "\uff10", "\u00b9", "\u00b2", "\u2460", "\u2081", "\u00bd", "\u2163", "\u4e00", "\u4e8c", "\U0001d7ce", "\U0001d7cf1", "1\U0001f1e6", "\u01311", "\u0130", "\u0131", "\u0230",
		"\ufffd", "1\ufffd", "\xff", "1\xff", "\xff1", "\x80", "1\x80", "\xc0\xb1", "\xe0\x80\xb1", "\xc3", "\xb1", "\xb0", "\xd9", "\xed\xa0\x80", "\xf4\x90\x80\x80", "\xc0\x80", "\xb2\xb5",
	}
}

// One wrong part, wherever it stands, and a text is none's.
func TestP7_2ReadWrongPart(t *testing.T) {
	for _, part := range parts() {
		wantNotRead(t, part)
		wantNotReadAll(t, part)
		for at := range 4 {
			for _, l := range [][]string{{"1", "2", "3", "4"}, {"0", "0", "0", "0"}, {"255", "255", "255", "255"}} {
				l[at] = part
				s := strings.Join(l, ".")
				wantNotRead(t, s)
				wantNotReadAll(t, s+"/32")
			}
		}
		wantNotRead(t, strings.Join([]string{part, part, part, part}, "."))
		for _, s := range []string{"0.0.0.0/", "10.0.0.0/", "1.2.3.4/", "255.255.255.255/"} {
			wantNotReadAll(t, s+part)
		}
	}
}

func TestP7_2ReadOtherNumbers(t *testing.T) {
	for _, s := range []string{
		"", "1", "0", "255", "167772160", "10.0", "1.2.3", "10.0.0", "1.2.3.4.5", "1.2.3.4.0", "0.0.0.0.0", "10.0.0.0.0.0",
		".", "..", "...", "....", ".....", ".1.2.3", "1.2.3.", ".1.2.3.4", "1.2.3.4.", "1..2.3", "1.2..3", "1..2.3.4", "1.2.3..4", "1.2..3.4", "..1.2", "1.2..", "1...2",
		" 1.2.3.4", "1.2.3.4 ", "1. 2.3.4", "1 .2.3.4", "\n1.2.3.4", "1.2.3.4\n", "1.2.3.4\x00", "\ufeff1.2.3.4", "1.2.3.4\xff", "\xff1.2.3.4", "1.2.3\xff.4", "1.2.3.\xff4", "[1.2.3.4]", "1.2.3.4:5", "1.2.3.4%a",
		"+1.2.3.4", "-1.2.3.4", "1.2.3.-4", "1.2.3.+4", "1.-0.3.4", "1,2,3,4", "1.2.3,4", "1.2.3\u30024", "1.2.3\uff0e4", "1.2.3\u00b74", "1.2.3/4", "1/2/3/4", "1.2.3.4/", "1.2.3.4/32", "/1.2.3.4", "10.0.0.0/27",
		"010.0.0.1", "10.00.0.1", "10.0.0.01", "10.0.0.00", "256.1.1.1", "1.256.1.1", "1.1.256.1", "1.1.1.256", "1000.1.1.1", "1.1.1.1000", "0x1.2.3.4", "::1", "::ffff:1.2.3.4", "a.b.c.d", "1.2.3.four",
	} {
		wantNotRead(t, s)
		wantNotReadAll(t, s+"/32")
	}
}

func TestP7_2ReadAllWrong(t *testing.T) {
	for _, s := range []string{
		"", "/", "//", "/0", "/32", "0/0", "32", "1.2.3.4", "0.0.0.0", "10.0.0.0", "1.2.3.4/", "0.0.0.0/", "1.2.3.4//32", "1.2.3.4/32/", "1.2.3.4/32/32", "0.0.0.0/0/0", "/1.2.3.4/32", "1.2.3.4/3/2", "1.2.3.4.32", "1.2.3/4/32", "1.2.3.4\\32", "1.2.3.4\u204432", "1.2.3.4\uff0f32", "1.2.3.4 32", "1.2.3.4-32",
		"0.0.0.0/33", "1.2.3.4/33", "0.0.0.0/64", "0.0.0.0/99", "0.0.0.0/320", "0.0.0.0/100", "0.0.0.0/-1", "0.0.0.0/-0", "0.0.0.0/+0", "1.2.3.4/+32", "1.2.3.4/032", "0.0.0.0/00", "10.0.0.0/027", "10.0.0.0/08", "0.0.0.0/4294967296", "0.0.0.0/18446744073709551616", "0.0.0.0/18446744073709551648",
		" 1.2.3.4/32", "1.2.3.4/32 ", "1.2.3.4 /32", "1.2.3.4/ 32", "1.2.3.4/3 2", "1.2.3.4/32\n", "1.2.3.4/32\x00", "1.2.3.4/32.", "1.2.3.4/.32", "1.2.3.4./32", "0.0.0.0/0.0", "1.2.3.4/255.255.255.255",
		"0.0.0/0", "0.0.0.0.0/0", "0/8", "010.0.0.0/8", "10.0.0.00/8", "256.0.0.0/8", "+10.0.0.0/8", "..../8", "0..0.0/0", "10.0.0.0/0x8", "10.0.0.0/8a", "10.0.0.0/\u0668", "10.0.0.0/\xff",
		"10.0.0.1/27", "10.0.0.16/27", "10.0.0.31/27", "10.0.0.33/27", "0.0.0.1/0", "128.0.0.0/0", "255.255.255.255/0", "64.0.0.0/1", "192.0.0.0/1", "10.0.0.0/6", "10.64.0.0/9", "10.32.0.0/10", "0.0.0.1/31", "255.255.255.255/31", "10.0.0.9/28",
	} {
		wantNotReadAll(t, s)
		wantNotRead(t, s+"/")
	}
}

// wantAsOther asks for what the library tells of a text, as an address's and as a prefix's.
func wantAsOther(t *testing.T, s string) (isAddress, isPrefix bool) {
	t.Helper()
	a, isAddress := otherRead(s)
	if isAddress {
		wantRead(t, s, a)
	} else {
		wantNotRead(t, s)
	}
	p, isPrefix := otherReadAll(s)
	if isPrefix {
		wantReadAll(t, s, p)
	} else {
		wantNotReadAll(t, s)
	}
	return isAddress, isPrefix
}

// signs are those that are put into texts: all of ASCII, and some beyond, or none at all.
func signs() []string {
	var l []string
	for c := range 128 {
		l = append(l, string(rune(c)))
	}
	return append(l, "\u0661", "\uff11", "\ufffd", "\xff", "\xb1", "\U0001d7ce", "1.", ".1", "/3", "12", "00")
}

// One sign more, less, or another one, wherever it is: the text is read just if the library reads it, and as it does.
func TestP7_2OneSignOther(t *testing.T) {
	for _, s := range []string{"", "0.0.0.0", "1.2.3.4", "10.0.0.9", "25.199.200.255", "0.0.0.0/0", "10.0.0.0/27", "1.2.3.4/32", "128.0.0.0/1", "255.255.255.255/32", "100.64.0.0/10"} {
		wantAsOther(t, s)
		for at := range len(s) + 1 {
			for _, sign := range signs() {
				wantAsOther(t, s[:at]+sign+s[at:])
				if at < len(s) {
					wantAsOther(t, s[:at]+sign+s[at+1:])
				}
			}
			wantAsOther(t, s[:at])
			wantAsOther(t, s[at:])
			if at < len(s) {
				wantAsOther(t, s[:at]+s[at+1:])
			}
		}
	}
}

// Texts made by chance of what addresses' texts have are read just if the library reads them, and as it does.
func TestP7_2ReadAny(t *testing.T) {
	chance := rand.New(rand.NewSource(1))
	pieces := []string{"0", "1", "2", "5", "9", "10", "32", "100", "255", "256", "00", "01"}
	addresses, prefixes, others := 0, 0, 0
	for range 60000 {
		s := ""
		for i := range 3 + chance.Intn(3) {
			if i > 0 && chance.Intn(30) > 0 {
				s += "."
			}
			s += pieces[chance.Intn(len(pieces)-chance.Intn(4))]
		}
		if chance.Intn(2) == 0 {
			s += "/" + strconv.Itoa(chance.Intn(36))
		}
		switch isAddress, isPrefix := wantAsOther(t, s); {
		case isAddress:
			addresses++
		case isPrefix:
			prefixes++
		default:
			others++
		}
	}
	if addresses < 1000 || prefixes < 200 || others < 1000 {
		t.Errorf("%d were addresses, %d prefixes, %d neither", addresses, prefixes, others)
	}
}

// What is told is read again, and as the library tells it.
func TestP7_3ToldIsRead(t *testing.T) {
	chance := rand.New(rand.NewSource(2))
	for range 20000 {
		a := chanceAddress(chance)
		s := addr.Text(a)
		wantText(t, a, netip.AddrFrom4([4]byte{byte(a >> 24), byte(a >> 16), byte(a >> 8), byte(a)}).String())
		wantRead(t, s, a)
		wantNotReadAll(t, s)
		p := chancePrefix(chance)
		whole := addr.TextAll(p)
		if other, is := otherReadAll(whole); !is || other != p {
			t.Fatalf("TextAll(%v): %q", p, whole)
		}
		wantReadAll(t, whole, p)
		wantNotRead(t, whole)
	}
	for _, bits := range []int{0, 9, 10, 32} {
		for _, base := range []int{0, 1<<32 - size(prefix(0, bits))} {
			wantReadAll(t, addr.TextAll(prefix(base, bits)), prefix(base, bits))
		}
	}
}

// What is read is told again, sign by sign, so that no two texts are one address's, or one prefix's.
func TestP7_3ReadIsTold(t *testing.T) {
	numbers := []string{"0", "00", "1", "01", "9", "10", "010", "99", "100", "255", "0255", "256"}
	count := 0
	for _, first := range numbers {
		for _, second := range numbers {
			for _, third := range numbers {
				for _, fourth := range numbers {
					s := strings.Join([]string{first, second, third, fourth}, ".")
					if a, is := addr.Read(s); is {
						count++
						wantText(t, a, s)
					}
					for _, bits := range []string{"0", "8", "08", "24", "31", "32", "33"} {
						if p, is := addr.ReadAll(s + "/" + bits); is {
							wantTextAll(t, p, s+"/"+bits)
						}
					}
				}
			}
		}
	}
	if count != 7*7*7*7 {
		t.Errorf("%d texts were read", count)
	}
}

// hasAll tells whether one prefix has the other's first, last, and middle addresses.
func hasAll(p, q api.Prefix) bool {
	n := size(q)
	for _, i := range []int{0, n / 3, n / 2, n - 1} {
		if addr.Index(p, q.Base+i) < 0 {
			return false
		}
	}
	return true
}

// lacks makes the test whether a prefix has not got an address.
func lacks(p api.Prefix) func(a int) bool {
	return func(a int) bool { return addr.Index(p, a) < 0 }
}

// Of two that meet one has all addresses of the other; of two that don't neither has one.
func TestP7_3MeetingHasAll(t *testing.T) {
	chance := rand.New(rand.NewSource(3))
	met, apart := 0, 0
	for range 40000 {
		p, q := chancePrefix(chance), chancePrefix(chance)
		if chance.Intn(2) == 0 {
			q.Base = p.Base + chance.Intn(3)*size(p) - size(p)
			q.Base = max(0, min(top, q.Base))
			q.Base -= q.Base % size(q)
		}
		if addr.Meet(p, q) {
			met++
			if !hasAll(p, q) && !hasAll(q, p) {
				t.Errorf("%v and %v meet, and neither has all of the other", p, q)
			}
			continue
		}
		apart++
		if p.Base < q.Base+size(q) && q.Base < p.Base+size(p) {
			t.Errorf("%v and %v don't meet", p, q)
		}
	}
	if met < 1000 || apart < 1000 {
		t.Errorf("%d met, %d were apart", met, apart)
	}
	l, all := small()
	for i, p := range l {
		for j, q := range l {
			within := !slices.ContainsFunc(all[i], lacks(q)) || !slices.ContainsFunc(all[j], lacks(p))
			if addr.Meet(p, q) != within {
				t.Errorf("%v and %v: meet %t, one within the other %t", p, q, addr.Meet(p, q), within)
			}
		}
	}
}

// Whatever numbers calls are made with, they end, and what one answers fits what the others do.
func TestP1AnyNumbers(t *testing.T) {
	for _, base := range edges() {
		for _, bits := range edges() {
			p := prefix(base, bits)
			may := addr.May(p)
			if may != (addr.Size(p) > 0) || may != (addr.TextAll(p) != "") || may != addr.Meet(p, p) || may != (addr.Index(p, base) == 0) {
				t.Errorf("%v: may be: %t", p, may)
			}
			for _, i := range edges() {
				a, is := addr.Nth(p, i)
				if is != (may && i >= 0 && i < addr.Size(p)) || is && addr.Index(p, a) != i {
					t.Errorf("Nth(%v, %d): %d, %t", p, i, a, is)
				}
				if at := addr.Index(p, i); at >= 0 && base+at != i || at < -1 {
					t.Errorf("Index(%v, %d): %d", p, i, at)
				}
			}
		}
	}
}

// Texts of great length end too, and are none's.
func TestP1LongTexts(t *testing.T) {
	for _, part := range []string{"0", "1", "9", ".", "0.", "1.", "/", "/0", "1.2.3.4", "1.2.3.4/32", " ", "\xff", "\u0664"} {
		long := strings.Repeat(part, 1<<20)
		for _, s := range []string{long, "1.2.3." + long, long + ".2.3.4", "1.2.3.4/" + long, long + "/32"} {
			if a, is := addr.Read(s); is || a != 0 {
				t.Errorf("2^20 times %q is read: %d", part, a)
			}
			if p, is := addr.ReadAll(s); is || p != (api.Prefix{}) {
				t.Errorf("2^20 times %q is read: %v", part, p)
			}
		}
	}
}

// No call hangs on the ones ahead: a text that is none's leaves nothing behind.
func TestR5NothingIsKept(t *testing.T) {
	for range 3 {
		wantNotRead(t, "1.2.3.256")
		wantRead(t, "0.0.0.1", 1)
		wantNotReadAll(t, "255.255.255.255/33")
		wantReadAll(t, "0.0.0.0/0", api.Prefix{})
		wantText(t, -1, "")
		wantText(t, ten, "10.0.0.0")
	}
}
