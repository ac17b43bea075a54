package detmap_test

import (
	"math"
	"math/rand"
	"testing"

	"moorings/api"
	"moorings/detmap"
)

const (
	// ten and eleven are where subscribers and public addresses of most examples begin.
	ten, eleven = 10 << 24, 11 << 24
)

func prefix(base, bits int) api.Prefix { return api.Prefix{Base: base, Bits: bits} }

// mapping has 2^(32 less in) subscribers, and 2^(32 less out) public addresses.
func mapping(in, out, lo, hi, dyn, block int) api.Det {
	return api.Det{In: prefix(ten, in), Out: prefix(eleven, out), Lo: lo, Hi: hi, Dyn: dyn, Block: block}
}

// one is the document's example.
func one() api.Det { return mapping(27, 30, 1024, 2047, 512, 64) }

// other is the example, changed.
func other(change func(d *api.Det)) api.Det {
	d := one()
	change(&d)
	return d
}

// known are mappings that fit, and their Ratio, Each, and Blocks; most of them are at an edge.
func known() []struct {
	d                   api.Det
	ratio, each, blocks int
} {
	return []struct {
		d                   api.Det
		ratio, each, blocks int
	}{
		{one(), 8, 64, 8},
		{mapping(32, 32, 1, 1, 0, 1), 1, 1, 0},
		{mapping(32, 32, 1, 1, 0, 65535), 1, 1, 0},
		{mapping(32, 32, 65535, 65535, 0, 1), 1, 1, 0},
		{mapping(32, 32, 1, 65535, 0, 1), 1, 65535, 0},
		{mapping(32, 32, 1, 65535, 65534, 65535), 1, 1, 0},
		{mapping(32, 32, 1, 65535, 65534, 65534), 1, 1, 1},
		{mapping(32, 32, 1, 65535, 65534, 7282), 1, 1, 8},
		{mapping(32, 32, 1, 2, 1, 1), 1, 1, 1},
		{mapping(32, 30, 1, 65535, 8, 1), 1, 65527, 8},
		{mapping(32, 31, 5, 20, 7, 2), 1, 9, 3},
		{mapping(31, 30, 5, 20, 7, 3), 1, 9, 2},
		{mapping(31, 32, 5, 20, 7, 4), 2, 4, 1},
		{mapping(30, 30, 5, 20, 7, 5), 1, 9, 1},
		{mapping(30, 32, 100, 120, 4, 3), 4, 4, 1},
		{mapping(30, 31, 100, 120, 4, 3), 2, 8, 1},
		{mapping(27, 32, 1, 32, 0, 9), 32, 1, 0},
		{mapping(27, 32, 1, 40, 8, 1), 32, 1, 8},
		{mapping(27, 32, 1024, 1086, 0, 9), 32, 1, 0},
		{mapping(27, 32, 1024, 1087, 0, 9), 32, 2, 0},
		{mapping(27, 31, 60000, 65535, 500, 99), 16, 314, 5},
		{mapping(28, 30, 2000, 2999, 899, 100), 4, 25, 8},
		{mapping(29, 30, 32768, 65535, 16384, 2048), 2, 8192, 8},
	}
}

// named is a mapping that does not fit, and why.
type named struct {
	why string
	d   api.Det
}

// badPrefixes are mappings whose In, or Out, may not be.
func badPrefixes() []named {
	var l []named
	for _, p := range []api.Prefix{{Base: ten + 1, Bits: 27}, {Base: ten, Bits: 33}, {Base: ten, Bits: -1}, {Base: -1, Bits: 32}, {Base: 1 << 32, Bits: 32}, {Base: math.MinInt, Bits: 32}, {Base: math.MaxInt, Bits: 32}, {Base: 0, Bits: math.MaxInt}, {Base: 0, Bits: math.MinInt}} {
		l = append(l,
			named{"In may not be", other(func(d *api.Det) { d.In = p })},
			named{"Out may not be", other(func(d *api.Det) { d.Out = p })},
			named{"neither may be", other(func(d *api.Det) { d.In, d.Out = p, p })})
	}
	return l
}

// bads are mappings that don't fit, though In and Out may be; each for one reason, where it can be so.
func bads() []named {
	return []named{
		{"In and Out are the same", other(func(d *api.Det) { d.Out = prefix(ten, 30); d.In = d.Out })},
		{"Out is the first of In", other(func(d *api.Det) { d.Out = prefix(ten, 30) })},
		{"Out is the last of In", other(func(d *api.Det) { d.Out = prefix(ten+28, 30) })},
		{"Out is an address of In", other(func(d *api.Det) { d.Out = prefix(ten+9, 32) })},
		{"In is an address of Out", other(func(d *api.Det) { d.In = prefix(eleven+3, 32) })},
		{"64 subscribers", other(func(d *api.Det) { d.In.Bits = 26 })},
		{"2^24 subscribers", other(func(d *api.Det) { d.In.Bits = 8 })},
		{"2^31 subscribers", other(func(d *api.Det) { d.In = prefix(1<<31, 1) })},
		{"8 public addresses", other(func(d *api.Det) { d.Out.Bits = 29 })},
		{"2^24 public addresses", other(func(d *api.Det) { d.Out.Bits = 8 })},
		{"2^31 public addresses", other(func(d *api.Det) { d.Out = prefix(1<<31, 1) })},
		{"Lo of 0", other(func(d *api.Det) { d.Lo = 0 })},
		{"Lo of -1", other(func(d *api.Det) { d.Lo = -1 })},
		{"the least Lo", other(func(d *api.Det) { d.Lo = math.MinInt })},
		{"Lo above Hi", other(func(d *api.Det) { d.Lo = 2048 })},
		{"Lo above Hi, Dyn of 0", other(func(d *api.Det) { d.Lo, d.Dyn = 2048, 0 })},
		{"the greatest Lo", other(func(d *api.Det) { d.Lo = math.MaxInt })},
		{"Hi of Lo less 1", other(func(d *api.Det) { d.Hi = 1023 })},
		{"Hi of Lo less 1, Dyn of -1", other(func(d *api.Det) { d.Hi, d.Dyn = 1023, -1 })},
		{"Hi of 65536", other(func(d *api.Det) { d.Hi = 65536 })},
		{"the greatest Hi", other(func(d *api.Det) { d.Hi = math.MaxInt })},
		{"the least Hi", other(func(d *api.Det) { d.Hi = math.MinInt })},
		{"the least Lo, and the greatest Hi", other(func(d *api.Det) { d.Lo, d.Hi = math.MinInt, math.MaxInt })},
		{"Lo of -1, Hi of -1", other(func(d *api.Det) { d.Lo, d.Hi, d.Dyn = -1, -1, 0 })},
		{"Dyn of -1", other(func(d *api.Det) { d.Dyn = -1 })},
		{"Dyn of -64", other(func(d *api.Det) { d.Dyn = -64 })},
		{"the least Dyn", other(func(d *api.Det) { d.Dyn = math.MinInt })},
		{"Dyn of all ports", other(func(d *api.Det) { d.Dyn, d.Block = 1024, 512 })},
		{"Dyn of more than all ports", other(func(d *api.Det) { d.Dyn, d.Block = 1025, 512 })},
		{"the greatest Dyn", other(func(d *api.Det) { d.Dyn = math.MaxInt })},
		{"Block of 0", other(func(d *api.Det) { d.Block = 0 })},
		{"Block of 0, Dyn of 0", other(func(d *api.Det) { d.Dyn, d.Block = 0, 0 })},
		{"Block of -1", other(func(d *api.Det) { d.Block = -1 })},
		{"Block of -64", other(func(d *api.Det) { d.Block = -64 })},
		{"the least Block", other(func(d *api.Det) { d.Block = math.MinInt })},
		{"Block of 65536", other(func(d *api.Det) { d.Block = 65536 })},
		{"Block of 65536, Dyn of 0", other(func(d *api.Det) { d.Dyn, d.Block = 0, 65536 })},
		{"the greatest Block", other(func(d *api.Det) { d.Block = math.MaxInt })},
		{"9 blocks", other(func(d *api.Det) { d.Dyn = 576 })},
		{"9 blocks, and ports left over", other(func(d *api.Det) { d.Block = 56 })},
		{"512 blocks", other(func(d *api.Det) { d.Block = 1 })},
		{"7 ports for 8", other(func(d *api.Det) { d.Dyn, d.Block = 1017, 500 })},
		{"7 ports for 8, no block", other(func(d *api.Det) { d.Hi, d.Dyn = 1030, 0 })},
		{"15 ports for 16", other(func(d *api.Det) { d.Dyn, d.Block, d.Out.Bits = 1009, 500, 31 })},
		{"31 ports for 32", other(func(d *api.Det) { d.Dyn, d.Block, d.Out.Bits = 993, 500, 32 })},
		{"zero", api.Det{}},
	}
}

// edges are numbers around all that the chapter names, and far from it.
func edges() []int {
	return []int{math.MinInt, math.MinInt + 1, math.MinInt + 1024, -1 << 61, -1 << 32, -65536, -64, -1, 0, 1, 2, 4, 8, 9, 31, 32, 33, 1023, 1024, 1025, 2047, 2048, 65535, 65536, 1 << 32, 1 << 40, 1 << 61, 1<<61 + 1, 1 << 62, math.MaxInt - 2047, math.MaxInt - 1, math.MaxInt}
}

// several are mappings that fit, of all kinds: those known, and others made by chance.
func several() []api.Det {
	var l []api.Det
	for _, x := range known() {
		l = append(l, x.d)
	}
	chance := rand.New(rand.NewSource(1))
	for len(l) < 150 {
		lo := 1 + chance.Intn(300)
		d := mapping(27+chance.Intn(6), 30+chance.Intn(3), lo, lo+chance.Intn(200), chance.Intn(120), 1+chance.Intn(40))
		if otherFit(d) {
			l = append(l, d)
		}
	}
	return l
}

// count is how many addresses a prefix has, by doubling; 0 if it may not be.
func count(p api.Prefix) int {
	if p.Bits < 0 || p.Bits > 32 || p.Base < 0 || p.Base >= 1<<32 {
		return 0
	}
	n := 1
	for range 32 - p.Bits {
		n *= 2
	}
	if p.Base%n != 0 {
		return 0
	}
	return n
}

// otherFit asks the promise's words by another way.
func otherFit(d api.Det) bool {
	in, out := count(d.In), count(d.Out)
	if in == 0 || out == 0 || in > 32 || out > 4 {
		return false
	}
	for i := range in {
		if at := d.In.Base + i - d.Out.Base; at >= 0 && at < out {
			return false
		}
	}
	if d.Lo <= 0 || d.Hi < d.Lo || d.Hi >= 65536 || d.Dyn <= -1 || d.Block <= 0 || d.Block >= 65536 {
		return false
	}
	left := d.Hi - d.Lo + 1 - d.Dyn
	return left > 0 && left >= otherRatio(d) && d.Dyn < 9*d.Block
}

// otherRatio deals subscribers out, one to each public address, as often as it takes.
func otherRatio(d api.Det) int {
	in, out := count(d.In), count(d.Out)
	if in == 0 || out == 0 {
		return 0
	}
	ratio := in / out
	if ratio*out < in {
		ratio++
	}
	return ratio
}

// dealt is what a mapping that fits gives to whom: each subscriber's own ports, and each address's blocks.
type dealt struct {
	each   int
	bases  []api.Span
	blocks [][]api.Span
}

// deal lays all spans one behind the other.
func deal(d api.Det) dealt {
	var x dealt
	ratio := otherRatio(d)
	for left := d.Hi - d.Lo + 1 - d.Dyn; left >= ratio; left -= ratio {
		x.each++
	}
	at, from := 0, d.Lo
	for len(x.bases) < count(d.In) {
		x.bases = append(x.bases, api.Span{Addr: at, From: from, To: from + x.each - 1})
		from += x.each
		if len(x.bases)%ratio == 0 {
			at, from = at+1, d.Lo
		}
	}
	for at := range count(d.Out) {
		var l []api.Span
		for from := d.Hi - d.Dyn + 1; from+d.Block-1 <= d.Hi; from += d.Block {
			l = append(l, api.Span{Addr: at, From: from, To: from + d.Block - 1})
		}
		x.blocks = append(x.blocks, l)
	}
	return x
}

// whose is the subscriber of a port, and the block in which it is; -1 and -1 if it has none.
func (x dealt) whose(at, port int) (sub, blk int) {
	sub, blk = -1, -1
	for i, s := range x.bases {
		if s.Addr == at && s.From <= port && port <= s.To {
			sub = i
		}
	}
	if at < 0 || at >= len(x.blocks) {
		return sub, blk
	}
	for i, s := range x.blocks[at] {
		if s.From <= port && port <= s.To {
			blk = i
		}
	}
	return sub, blk
}

func wantFit(t *testing.T, d api.Det, want bool) {
	t.Helper()
	if detmap.Fit(d) != want {
		t.Errorf("Fit(%v): not %t", d, want)
	}
}

func wantNumbers(t *testing.T, d api.Det, ratio, each, blocks int) {
	t.Helper()
	if r, e, b := detmap.Ratio(d), detmap.Each(d), detmap.Blocks(d); r != ratio || e != each || b != blocks {
		t.Errorf("%v: Ratio %d, Each %d, Blocks %d, not %d, %d, %d", d, r, e, b, ratio, each, blocks)
	}
}

func wantBase(t *testing.T, d api.Det, sub int, want api.Span) {
	t.Helper()
	if s, is := detmap.Base(d, sub); !is || s != want {
		t.Errorf("Base(%v, %d): %v, %t, not %v", d, sub, s, is, want)
	}
}

func wantNoBase(t *testing.T, d api.Det, sub int) {
	t.Helper()
	if s, is := detmap.Base(d, sub); is || s != (api.Span{}) {
		t.Errorf("Base(%v, %d): %v, %t", d, sub, s, is)
	}
}

func wantBlock(t *testing.T, d api.Det, at, blk int, want api.Span) {
	t.Helper()
	if s, is := detmap.Block(d, at, blk); !is || s != want {
		t.Errorf("Block(%v, %d, %d): %v, %t, not %v", d, at, blk, s, is, want)
	}
}

func wantNoBlock(t *testing.T, d api.Det, at, blk int) {
	t.Helper()
	if s, is := detmap.Block(d, at, blk); is || s != (api.Span{}) {
		t.Errorf("Block(%v, %d, %d): %v, %t", d, at, blk, s, is)
	}
}

func wantWho(t *testing.T, d api.Det, at, port, want int) {
	t.Helper()
	if sub := detmap.Who(d, at, port); sub != want {
		t.Errorf("Who(%v, %d, %d): %d, not %d", d, at, port, sub, want)
	}
}

func wantWhich(t *testing.T, d api.Det, at, port, want int) {
	t.Helper()
	if blk := detmap.Which(d, at, port); blk != want {
		t.Errorf("Which(%v, %d, %d): %d, not %d", d, at, port, blk, want)
	}
}

// wantNothing asks for a mapping that does not fit, and gives no ports to anybody.
func wantNothing(t *testing.T, d api.Det) {
	t.Helper()
	wantFit(t, d, false)
	wantNumbers(t, d, otherRatio(d), 0, 0)
	for _, n := range []int{math.MinInt, -1, 0, 1, 7, 8, 31, math.MaxInt} {
		wantNoBase(t, d, n)
	}
	for _, at := range []int{-1, 0, 1, 3, math.MaxInt} {
		for _, n := range []int{-1, 0, 1, 7, 8} {
			wantNoBlock(t, d, at, n)
		}
		for _, port := range []int{math.MinInt, d.Lo - 1, d.Lo, d.Lo + 1, d.Hi - d.Dyn, d.Hi - d.Dyn + 1, d.Hi, 0, 1, 1024, 1500, 1536, 2047, math.MaxInt} {
			wantWho(t, d, at, port, -1)
			wantWhich(t, d, at, port, -1)
		}
	}
}

// wantAll asks for all that a mapping that fits tells: of all its subscribers, addresses, blocks and ports, and just outside.
func wantAll(t *testing.T, d api.Det) {
	t.Helper()
	x := deal(d)
	wantFit(t, d, true)
	wantNumbers(t, d, otherRatio(d), x.each, len(x.blocks[0]))
	for sub, s := range x.bases {
		wantBase(t, d, sub, s)
	}
	wantNoBase(t, d, -1)
	wantNoBase(t, d, len(x.bases))
	for at, l := range x.blocks {
		for blk, s := range l {
			wantBlock(t, d, at, blk, s)
		}
		wantNoBlock(t, d, at, -1)
		wantNoBlock(t, d, at, len(l))
	}
	wantNoBlock(t, d, -1, 0)
	wantNoBlock(t, d, len(x.blocks), 0)
	for at := -1; at <= len(x.blocks); at++ {
		for port := d.Lo - 3; port <= d.Hi+3; port++ {
			sub, blk := x.whose(at, port)
			wantWho(t, d, at, port, sub)
			wantWhich(t, d, at, port, blk)
		}
	}
}

func TestP8_1Known(t *testing.T) {
	for _, x := range known() {
		wantFit(t, x.d, true)
		wantNumbers(t, x.d, x.ratio, x.each, x.blocks)
	}
}

func TestP8_1NoFit(t *testing.T) {
	for _, x := range append(bads(), badPrefixes()...) {
		if detmap.Fit(x.d) {
			t.Errorf("%s: fits", x.why)
		}
		if detmap.Each(x.d) != 0 {
			t.Errorf("%s: Each %d", x.why, detmap.Each(x.d))
		}
	}
}

// Prefixes fit that lie side by side, either way round, and far apart.
func TestP8_1SideBySide(t *testing.T) {
	for _, x := range []struct {
		in, out api.Prefix
		want    bool
	}{
		{prefix(ten, 27), prefix(ten+32, 30), true},
		{prefix(ten, 27), prefix(ten-4, 30), true},
		{prefix(ten, 27), prefix(ten+28, 30), false},
		{prefix(ten, 27), prefix(ten, 30), false},
		{prefix(ten, 27), prefix(ten-1, 32), true},
		{prefix(ten, 27), prefix(ten+32, 32), true},
		{prefix(ten, 27), prefix(ten+31, 32), false},
		{prefix(ten, 32), prefix(ten+1, 32), true},
		{prefix(ten+1, 32), prefix(ten, 32), true},
		{prefix(ten, 32), prefix(ten, 32), false},
		{prefix(ten, 31), prefix(ten+2, 31), true},
		{prefix(ten, 31), prefix(ten, 30), false},
		{prefix(0, 27), prefix(1<<32-4, 30), true},
		{prefix(1<<32-32, 27), prefix(0, 30), true},
		{prefix(0, 27), prefix(32, 30), true},
		{prefix(1<<32-32, 27), prefix(1<<32-4, 30), false},
	} {
		d := one()
		d.In, d.Out = x.in, x.out
		wantFit(t, d, x.want)
	}
}

func TestP8_1HowMany(t *testing.T) {
	for in := 0; in <= 32; in++ {
		for out := 0; out <= 32; out++ {
			d := mapping(in, out, 1, 65535, 100, 50)
			d.In.Base, d.Out.Base = 0, 1<<32-count(prefix(0, out))
			wantFit(t, d, in >= 27 && out >= 30)
		}
	}
}

// Around each edge of Lo, Hi, Dyn and Block, all else at the document's example, or so that nothing else is in the way.
func TestP8_1Edges(t *testing.T) {
	for _, x := range []struct {
		lo, hi, dyn, block int
		want               bool
	}{
		{1, 2047, 512, 64, true}, {0, 2047, 512, 64, false}, {-1, 2047, 512, 64, false},
		{1024, 65535, 512, 64, true}, {1024, 65536, 512, 64, false}, {1, 65535, 0, 1, true}, {1, 65536, 0, 1, false}, {0, 65535, 0, 1, false},
		{7, 7, 0, 1, true}, {8, 7, 0, 1, false}, {9, 7, 0, 1, false}, {8, 7, -1, 1, false}, {65535, 65535, 0, 1, true}, {65536, 65536, 0, 1, false}, {65536, 65535, 0, 1, false}, {1, 1, 0, 1, true}, {0, 0, 0, 1, false},
		{1024, 2047, 0, 64, true}, {1024, 2047, -1, 64, false}, {1024, 2047, 1023, 500, true}, {1024, 2047, 1024, 500, false}, {1024, 2047, 1025, 500, false}, {7, 7, 1, 1, false}, {7, 8, 1, 1, true}, {7, 8, 2, 1, false},
		{1024, 2047, 512, 65535, true}, {1024, 2047, 512, 65536, false}, {1024, 2047, 0, 65535, true}, {1024, 2047, 0, 65536, false}, {1024, 2047, 0, 1, true}, {1024, 2047, 0, 0, false}, {1024, 2047, 8, 1, true}, {1024, 2047, 8, 0, false}, {1024, 2047, 8, -1, false}, {1, 65535, 65534, 65534, true}, {1, 65535, 65534, 65535, true}, {1, 65535, 65534, 65536, false},
		{1024, 2047, 8, 1, true}, {1024, 2047, 9, 1, false}, {1024, 2047, 17, 2, true}, {1024, 2047, 18, 2, false}, {1024, 2047, 575, 64, true}, {1024, 2047, 576, 64, false}, {1024, 2047, 512, 57, true}, {1024, 2047, 512, 56, false}, {1, 65535, 65534, 7282, true}, {1, 65535, 65534, 7281, false},
	} {
		wantFit(t, mapping(32, 32, x.lo, x.hi, x.dyn, x.block), x.want)
	}
}

// Of as many shared ports as Ratio tells each has one; one fewer won't do.
func TestP8_1SharedPorts(t *testing.T) {
	for in := 27; in <= 32; in++ {
		for out := 30; out <= 32; out++ {
			for _, dyn := range []int{0, 1, 8, 100} {
				ratio := otherRatio(mapping(in, out, 0, 0, 0, 0))
				d := mapping(in, out, 500, 500+ratio+dyn-1, dyn, 30)
				wantFit(t, d, true)
				wantNumbers(t, d, ratio, 1, dyn/30)
				d.Hi--
				wantFit(t, d, false)
				wantNumbers(t, d, ratio, 0, 0)
				d.Hi += 2
				wantFit(t, d, true)
				d.Dyn += 2
				wantFit(t, d, false)
			}
		}
	}
}

// Ratio asks for nothing but that In and Out may be.
func TestP8_1Ratio(t *testing.T) {
	for _, x := range []struct{ in, out, ratio int }{
		{27, 30, 8}, {27, 31, 16}, {27, 32, 32}, {28, 30, 4}, {29, 30, 2}, {30, 30, 1}, {32, 32, 1}, {31, 32, 2},
		{31, 30, 1}, {32, 30, 1}, {32, 31, 1}, {32, 0, 1}, {32, 1, 1}, {31, 8, 1},
		{26, 30, 16}, {26, 29, 8}, {8, 30, 4194304}, {0, 32, 4294967296}, {0, 0, 1}, {1, 0, 1}, {0, 1, 2}, {0, 30, 1073741824}, {1, 32, 2147483648},
	} {
		d := api.Det{In: prefix(0, x.in), Out: prefix(0, x.out)}
		wantFit(t, d, false)
		wantNumbers(t, d, x.ratio, 0, 0)
		d.Lo, d.Hi, d.Dyn, d.Block = math.MinInt, math.MaxInt, math.MinInt, math.MinInt
		wantNumbers(t, d, x.ratio, 0, 0)
	}
	for _, x := range badPrefixes() {
		if r := detmap.Ratio(x.d); r != 0 {
			t.Errorf("%s: Ratio %d", x.why, r)
		}
	}
	for _, x := range bads() {
		if r := detmap.Ratio(x.d); r != otherRatio(x.d) || r == 0 {
			t.Errorf("%s: Ratio %d", x.why, r)
		}
	}
}

func TestP8_1EachRoundedDown(t *testing.T) {
	for _, x := range []struct{ hi, each int }{{107, 1}, {108, 1}, {114, 1}, {115, 2}, {116, 2}, {122, 2}, {123, 3}, {899, 100}, {900, 100}, {906, 100}, {907, 101}} {
		wantNumbers(t, mapping(27, 30, 100, x.hi, 0, 1), 8, x.each, 0)
		wantNumbers(t, mapping(27, 30, 100, x.hi+50, 50, 25), 8, x.each, 2)
		wantNumbers(t, mapping(27, 30, 100, x.hi+50, 50, 51), 8, x.each, 0)
	}
}

// All small mappings fit just if the promise's words hold for them.
func TestP8_1SmallAll(t *testing.T) {
	fits := 0
	for _, sizes := range [][2]int{{26, 30}, {27, 29}, {29, 30}, {29, 32}, {30, 31}, {32, 30}, {32, 32}} {
		for lo := -1; lo <= 3; lo++ {
			for hi := -1; hi <= 13; hi++ {
				for dyn := -1; dyn <= 14; dyn++ {
					for block := -1; block <= 4; block++ {
						d := mapping(sizes[0], sizes[1], lo, hi, dyn, block)
						want := otherFit(d)
						wantFit(t, d, want)
						if want {
							fits++
						} else if detmap.Each(d) != 0 || detmap.Blocks(d) != 0 {
							t.Errorf("%v: Each %d, Blocks %d", d, detmap.Each(d), detmap.Blocks(d))
						}
					}
				}
			}
		}
	}
	if fits < 1000 {
		t.Errorf("only %d fitted", fits)
	}
}

func TestP8_2Known(t *testing.T) {
	for _, x := range []struct {
		sub int
		s   api.Span
	}{
		{0, api.Span{Addr: 0, From: 1024, To: 1087}},
		{1, api.Span{Addr: 0, From: 1088, To: 1151}},
		{7, api.Span{Addr: 0, From: 1472, To: 1535}},
		{8, api.Span{Addr: 1, From: 1024, To: 1087}},
		{9, api.Span{Addr: 1, From: 1088, To: 1151}},
		{16, api.Span{Addr: 2, From: 1024, To: 1087}},
		{30, api.Span{Addr: 3, From: 1408, To: 1471}},
		{31, api.Span{Addr: 3, From: 1472, To: 1535}},
	} {
		wantBase(t, one(), x.sub, x.s)
		for _, port := range []int{x.s.From, x.s.From + 1, x.s.From + 31, x.s.To - 1, x.s.To} {
			wantWho(t, one(), x.s.Addr, port, x.sub)
		}
	}
	wantBase(t, mapping(27, 32, 1, 65535, 0, 1), 31, api.Span{From: 63458, To: 65504})
	wantBase(t, mapping(32, 32, 1, 65535, 0, 1), 0, api.Span{From: 1, To: 65535})
	wantBase(t, mapping(32, 32, 65535, 65535, 0, 1), 0, api.Span{From: 65535, To: 65535})
	wantBase(t, mapping(31, 30, 5, 20, 7, 3), 1, api.Span{Addr: 1, From: 5, To: 13})
}

func TestP8_2NoSubscriber(t *testing.T) {
	for _, x := range known() {
		n := count(x.d.In)
		for _, sub := range []int{-1, -2, -n, n, n + 1, 2 * n, 64, 1 << 32, 1 << 61, 1 << 62, math.MaxInt, math.MinInt, math.MinInt + 1} {
			wantNoBase(t, x.d, sub)
		}
	}
}

func TestP8_2WhoOutside(t *testing.T) {
	d := one()
	for at := range 4 {
		wantWho(t, d, at, 1023, -1)
		wantWho(t, d, at, 1536, -1)
		wantWho(t, d, at, 2047, -1)
		wantWho(t, d, at, 2048, -1)
		wantWho(t, d, at, 1087, 8*at)
		wantWho(t, d, at, 1088, 8*at+1)
	}
	for port := 1024; port < 1536; port++ {
		for _, at := range []int{-1, 4, 5, -8, 8} {
			wantWho(t, d, at, port, -1)
		}
	}
}

// Ports left over behind the last one's are nobody's, and so are all of an address that has no subscriber.
func TestP8_2WhoLeftOver(t *testing.T) {
	d := mapping(30, 32, 100, 120, 4, 3)
	for port, want := range map[int]int{99: -1, 100: 0, 103: 0, 104: 1, 107: 1, 108: 2, 111: 2, 112: 3, 115: 3, 116: -1, 117: -1, 120: -1} {
		wantWho(t, d, 0, port, want)
	}
	d = mapping(31, 30, 5, 20, 7, 3)
	for port := 5; port <= 13; port++ {
		for at, want := range []int{0, 1, -1, -1} {
			wantWho(t, d, at, port, want)
		}
	}
}

// Addresses and ports that are none, so far off that they lead back to subscribers' places.
func TestP8_2WhoFarOff(t *testing.T) {
	d := one()
	for k := -40; k <= 40; k++ {
		for port := 1024 - 512*k; port < 1024-512*k+512; port += 63 {
			want := -1
			if k == 0 {
				want = (port - 1024) / 64
			}
			wantWho(t, d, k, port, want)
		}
	}
	for _, at := range edges() {
		for _, port := range edges() {
			want := -1
			if at >= 0 && at < 4 && port >= 1024 && port < 1536 {
				want = 8*at + (port-1024)/64
			}
			wantWho(t, d, at, port, want)
		}
	}
	for _, step := range []int{1 << 60, 1 << 61, 1 << 62, -1 << 61, -1 << 62, math.MinInt} {
		for at := range 4 {
			wantWho(t, d, at+step, 1024, -1)
			wantWho(t, d, at, 1024+step, -1)
			wantWho(t, mapping(27, 32, 1, 32, 0, 1), 0, 1+at+step, -1)
		}
	}
}

func TestP8_3Known(t *testing.T) {
	for _, x := range []struct {
		at, blk int
		s       api.Span
	}{
		{0, 0, api.Span{Addr: 0, From: 1536, To: 1599}},
		{0, 1, api.Span{Addr: 0, From: 1600, To: 1663}},
		{0, 7, api.Span{Addr: 0, From: 1984, To: 2047}},
		{1, 3, api.Span{Addr: 1, From: 1728, To: 1791}},
		{3, 0, api.Span{Addr: 3, From: 1536, To: 1599}},
		{3, 7, api.Span{Addr: 3, From: 1984, To: 2047}},
	} {
		wantBlock(t, one(), x.at, x.blk, x.s)
		for _, port := range []int{x.s.From, x.s.From + 1, x.s.From + 31, x.s.To - 1, x.s.To} {
			wantWhich(t, one(), x.at, port, x.blk)
		}
	}
	wantBlock(t, mapping(32, 32, 1, 65535, 65534, 65534), 0, 0, api.Span{From: 2, To: 65535})
	wantBlock(t, mapping(32, 32, 1, 65535, 65534, 7282), 0, 7, api.Span{From: 50976, To: 58257})
	wantBlock(t, mapping(32, 30, 1, 65535, 8, 1), 3, 7, api.Span{Addr: 3, From: 65535, To: 65535})
}

func TestP8_3Blocks(t *testing.T) {
	for _, x := range []struct{ dyn, block, blocks int }{{0, 1, 0}, {0, 65535, 0}, {1, 1, 1}, {1, 2, 0}, {8, 1, 8}, {63, 64, 0}, {64, 64, 1}, {65, 64, 1}, {511, 64, 7}, {512, 64, 8}, {575, 64, 8}, {512, 57, 8}, {512, 512, 1}, {512, 513, 0}} {
		wantNumbers(t, mapping(27, 30, 1024, 2047, x.dyn, x.block), 8, (1024-x.dyn)/8, x.blocks)
	}
	for _, x := range append(bads(), badPrefixes()...) {
		if n := detmap.Blocks(x.d); n != 0 {
			t.Errorf("%s: %d Blocks", x.why, n)
		}
	}
}

func TestP8_3NoBlock(t *testing.T) {
	far := []int{-1, -2, -8, 1 << 32, 1 << 61, 1 << 62, math.MaxInt, math.MinInt, math.MinInt + 1}
	for _, x := range known() {
		n := count(x.d.Out)
		for at := range n {
			for _, blk := range append([]int{x.blocks, x.blocks + 1, 8, 9}, far...) {
				wantNoBlock(t, x.d, at, blk)
			}
		}
		for blk := range 8 {
			for _, at := range append([]int{n, n + 1, 4, 32}, far...) {
				wantNoBlock(t, x.d, at, blk)
			}
		}
	}
}

func TestP8_3WhichOutside(t *testing.T) {
	d := one()
	for at := range 4 {
		for _, port := range []int{0, 1023, 1024, 1472, 1473, 1535, 2048, 2111, 2112} {
			wantWhich(t, d, at, port, -1)
		}
		wantWhich(t, d, at, 1599, 0)
		wantWhich(t, d, at, 1600, 1)
	}
	for port := 1536; port < 2048; port++ {
		for _, at := range []int{-1, 4, 5, -8, 8} {
			wantWhich(t, d, at, port, -1)
		}
	}
	for _, at := range edges() {
		for _, port := range edges() {
			want := -1
			if at >= 0 && at < 4 && port == 2047 {
				want = 7
			}
			wantWhich(t, d, at, port, want)
		}
	}
}

// Ports left over behind the last block are in none; nor is one if there is no block.
func TestP8_3WhichLeftOver(t *testing.T) {
	d := mapping(30, 32, 100, 120, 4, 3)
	for port, want := range map[int]int{100: -1, 114: -1, 115: -1, 116: -1, 117: 0, 119: 0, 120: -1, 121: -1} {
		wantWhich(t, d, 0, port, want)
	}
	for _, block := range []int{5, 21, 65535} {
		d.Block = block
		for port := 95; port < 125; port++ {
			wantWhich(t, d, 0, port, -1)
		}
	}
	d.Dyn = 0
	for port := 95; port < 125; port++ {
		wantWhich(t, d, 0, port, -1)
	}
}

// A mapping that does not fit gives nobody a port, whatever else it tells.
func TestP8_2P8_3NoFit(t *testing.T) {
	for _, x := range append(bads(), badPrefixes()...) {
		t.Run(x.why, func(t *testing.T) { wantNothing(t, x.d) })
	}
}

// Each port is asked for, and those just outside.
func TestP8_2P8_3EachPort(t *testing.T) {
	for _, d := range several() {
		if d.Hi-d.Lo < 1100 {
			wantAll(t, d)
		}
	}
}

// All mappings that are so small that all of them can be asked for all.
func TestP8_2P8_3SmallAll(t *testing.T) {
	for _, sizes := range [][2]int{{29, 31}, {30, 32}, {31, 30}, {32, 32}} {
		for lo := 1; lo <= 2; lo++ {
			for hi := lo; hi < lo+9; hi++ {
				for dyn := 0; dyn <= hi-lo; dyn++ {
					for block := 1; block <= 4; block++ {
						d := mapping(sizes[0], sizes[1], lo, hi, dyn, block)
						if otherFit(d) {
							wantAll(t, d)
						}
					}
				}
			}
		}
	}
}

// spans are all Bases and Blocks of a mapping, as told by the calls.
func spans(d api.Det) []api.Span {
	var l []api.Span
	for sub := range 40 {
		if s, is := detmap.Base(d, sub); is {
			l = append(l, s)
		}
	}
	for at := range 8 {
		for blk := range 16 {
			if s, is := detmap.Block(d, at, blk); is {
				l = append(l, s)
			}
		}
	}
	return l
}

// No two have a port of one address, and none lies outside of Lo to Hi, or at no address, or is without ports.
func TestP8_4NoTwo(t *testing.T) {
	for _, d := range several() {
		l := spans(d)
		if want := count(d.In) + count(d.Out)*detmap.Blocks(d); len(l) != want {
			t.Errorf("%v: %d spans, not %d", d, len(l), want)
		}
		for i, s := range l {
			if s.Addr < 0 || s.Addr >= count(d.Out) || s.From < d.Lo || s.To > d.Hi || s.From > s.To {
				t.Errorf("%v: %v", d, s)
			}
			for _, other := range l[:i] {
				if s.Addr == other.Addr && max(s.From, other.From) <= min(s.To, other.To) {
					t.Errorf("%v: %v and %v", d, s, other)
				}
			}
		}
	}
}

// Who is the way back from Base, Which from Block, for each of their ports; and a port is never both a subscriber's and a block's.
func TestP8_4WayBack(t *testing.T) {
	for _, d := range several() {
		for sub := range count(d.In) {
			s, _ := detmap.Base(d, sub)
			for _, port := range []int{s.From, (s.From + s.To) / 2, s.To} {
				wantWho(t, d, s.Addr, port, sub)
				wantWhich(t, d, s.Addr, port, -1)
			}
		}
		for at := range count(d.Out) {
			for blk := range detmap.Blocks(d) {
				s, _ := detmap.Block(d, at, blk)
				for _, port := range []int{s.From, (s.From + s.To) / 2, s.To} {
					wantWho(t, d, at, port, -1)
					wantWhich(t, d, at, port, blk)
				}
			}
		}
	}
}

// Every subscriber has just as many ports as every other one, and every block too.
func TestP8_4AllAlike(t *testing.T) {
	for _, d := range several() {
		each, of := detmap.Each(d), count(d.In)
		for i, s := range spans(d) {
			want := d.Block
			if i < of {
				want = each
			}
			if s.To-s.From+1 != want {
				t.Errorf("%v: %v has not %d ports", d, s, want)
			}
		}
	}
}

// Whatever numbers calls are made with, they end, and what one answers fits what the others do.
func TestP1AnyNumbers(t *testing.T) {
	for _, n := range edges() {
		for _, m := range edges() {
			for _, d := range []api.Det{
				{In: prefix(n, m), Out: prefix(eleven, 30), Lo: 1024, Hi: 2047, Dyn: 512, Block: 64},
				{In: prefix(ten, 27), Out: prefix(n, m), Lo: 1024, Hi: 2047, Dyn: 512, Block: 64},
				mapping(27, 30, n, m, 512, 64),
				mapping(27, 30, n, 2047, m, 64),
				mapping(27, 30, n, 2047, 512, m),
				mapping(27, 30, 1024, n, m, 64),
				mapping(27, 30, 1024, n, 512, m),
				mapping(27, 30, 1024, 2047, n, m),
				mapping(32, 32, n, n, 0, m),
				mapping(n, m, 1024, 2047, 512, 64),
				{In: prefix(n, n), Out: prefix(m, m), Lo: n, Hi: m, Dyn: n, Block: m},
			} {
				wantFitting(t, d, n, m)
			}
		}
	}
}

// wantFitting asks that all calls answer as one, where they are made with two numbers.
func wantFitting(t *testing.T, d api.Det, n, m int) {
	t.Helper()
	fits := otherFit(d)
	wantFit(t, d, fits)
	if fits != (detmap.Each(d) > 0) || !fits && detmap.Blocks(d) != 0 || detmap.Ratio(d) != otherRatio(d) {
		t.Errorf("%v: fits: %t", d, fits)
	}
	s, is := detmap.Base(d, n)
	if is != (fits && n >= 0 && n < count(d.In)) || is && detmap.Who(d, s.Addr, s.To) != n {
		t.Errorf("Base(%v, %d): %v, %t", d, n, s, is)
	}
	s, is = detmap.Block(d, n, m)
	if is != (fits && n >= 0 && n < count(d.Out) && m >= 0 && m < detmap.Blocks(d)) || is && detmap.Which(d, n, s.To) != m {
		t.Errorf("Block(%v, %d, %d): %v, %t", d, n, m, s, is)
	}
	sub, blk := detmap.Who(d, n, m), detmap.Which(d, n, m)
	if sub < -1 || blk < -1 || sub >= 0 && blk >= 0 || !fits && (sub >= 0 || blk >= 0) {
		t.Errorf("%v: Who(%d, %d) %d, Which %d", d, n, m, sub, blk)
	}
	if s, is := detmap.Base(d, sub); sub >= 0 && (!is || s.Addr != n || m < s.From || m > s.To) {
		t.Errorf("%v: Who(%d, %d) %d", d, n, m, sub)
	}
	if s, is := detmap.Block(d, n, blk); blk >= 0 && (!is || m < s.From || m > s.To) {
		t.Errorf("%v: Which(%d, %d) %d", d, n, m, blk)
	}
}

// No call hangs on the ones ahead: a mapping that does not fit leaves nothing behind, and one that fits neither.
func TestR5NothingIsKept(t *testing.T) {
	for range 3 {
		for _, x := range known()[:6] {
			wantNumbers(t, x.d, x.ratio, x.each, x.blocks)
			wantNumbers(t, api.Det{}, 1, 0, 0)
			wantBase(t, one(), 9, api.Span{Addr: 1, From: 1088, To: 1151})
			wantNoBase(t, other(func(d *api.Det) { d.Block = 0 }), 9)
			wantBlock(t, one(), 3, 7, api.Span{Addr: 3, From: 1984, To: 2047})
			wantWho(t, one(), 1, 1100, 9)
			wantWhich(t, one(), 1, 1100, -1)
		}
	}
}
