package lease_test

import (
	"cmp"
	"maps"
	"math"
	"math/rand"
	"slices"
	"testing"

	"moorings/api"
	"moorings/detmap"
	"moorings/lease"
)

// block is a public address, and a block of it.
type block struct{ at, blk int }

// of are leases told by threes: Sub, Addr, Blk, Sub, Addr, Blk ... No two of them are the same in From and Last.
func of(threes ...int) []api.Lease {
	var l []api.Lease
	for i := 0; i+2 < len(threes); i += 3 {
		l = append(l, api.Lease{Sub: threes[i], Addr: threes[i+1], Blk: threes[i+2], From: 100 + i, Last: 200 + i})
	}
	return l
}

// back is what is held, told by threes: Addr, Blk, Till, Addr, Blk, Till ...
func back(threes ...int) []api.Held {
	var h []api.Held
	for i := 0; i+2 < len(threes); i += 3 {
		h = append(h, api.Held{Addr: threes[i], Blk: threes[i+1], Till: threes[i+2]})
	}
	return h
}

// held are the blocks of leases, held till other ticks each.
func held(l []api.Lease) []api.Held {
	var h []api.Held
	for i, x := range l {
		h = append(h, api.Held{Addr: x.Addr, Blk: x.Blk, Till: 10 + i%3})
	}
	return h
}

// blocks are some blocks, in order.
func blocks() []block { return []block{{0, 0}, {0, 1}, {1, 0}, {2, 5}} }

// lists are all lists of up to four leases of these blocks: in order and in none, with one block once and several times.
func lists() [][]api.Lease {
	all := [][]api.Lease{nil, {}}
	for from := 1; from < len(all); from++ {
		if len(all[from]) == 4 {
			break
		}
		for _, b := range blocks() {
			i := len(all[from])
			x := api.Lease{Sub: 5 + i%3, Addr: b.at, Blk: b.blk, From: i, Last: i + from}
			all = append(all, append(slices.Clone(all[from]), x))
		}
	}
	return all
}

// long are n leases of as many blocks, in order.
func long(n int) []api.Lease {
	var l []api.Lease
	for i := range n {
		l = append(l, api.Lease{Sub: i % 4, Addr: i / 8, Blk: i % 8, From: i, Last: i + 1})
	}
	return l
}

// sizes are how long lists are that stand at an edge, or near one.
func sizes() []int { return []int{0, 1, 2, 30, 31, 32, 33, 34, 100} }

// edges are numbers around all that the chapter names, and far from it.
func edges() []int {
	return []int{math.MinInt, math.MinInt + 1, -1 << 62, -1 << 32, -2, -1, 0, 1, 2, 3, 7, 8, 9, 31, 32, 33, 1 << 32, 1 << 62, math.MaxInt - 1, math.MaxInt}
}

// far are the numbers whose sums and differences deceive.
func far() []int {
	return []int{math.MinInt, math.MinInt + 1, -1 << 62, -1, 0, 1, 1 << 62, math.MaxInt - 1, math.MaxInt}
}

// isBehind asks the document's words by another way.
func isBehind(atX, blkX, atY, blkY int) bool {
	return cmp.Or(cmp.Compare(atX, atY), cmp.Compare(blkX, blkY)) == 1
}

// otherFind asks the document's words by another way.
func otherFind(l []api.Lease, at, blk int) int {
	found := -1
	for k := len(l) - 1; k >= 0; k-- {
		if (block{l[k].Addr, l[k].Blk}) == (block{at, blk}) {
			found = k
		}
	}
	return found
}

// otherOf asks the document's words by another way.
func otherOf(l []api.Lease, sub int) []int {
	places := map[int][]int{}
	for k, x := range l {
		places[x.Sub] = append(places[x.Sub], k)
	}
	return places[sub]
}

// otherPut tells what Put is to answer.
func otherPut(l []api.Lease, x api.Lease) ([]api.Lease, bool) {
	if len(l) > 31 || otherFind(l, x.Addr, x.Blk) != -1 {
		return l, false
	}
	k := 0
	for k < len(l) && !isBehind(l[k].Addr, l[k].Blk, x.Addr, x.Blk) {
		k++
	}
	return slices.Concat(l[:k], []api.Lease{x}, l[k:]), true
}

// otherDel tells what Del is to answer.
func otherDel(l []api.Lease, at, blk int) ([]api.Lease, bool) {
	k := otherFind(l, at, blk)
	if k < 0 {
		return l, false
	}
	return slices.Concat(l[:k], l[k+1:]), true
}

// otherHold tells what Hold is to answer.
func otherHold(h []api.Held, x api.Held) []api.Held {
	all := []api.Held{}
	put := false
	for _, y := range h {
		if y.Addr == x.Addr && y.Blk == x.Blk {
			continue
		}
		if !put && isBehind(y.Addr, y.Blk, x.Addr, x.Blk) {
			all, put = append(all, x), true
		}
		all = append(all, y)
	}
	if !put {
		all = append(all, x)
	}
	return all
}

// otherClean tells what Clean is to answer.
func otherClean(h []api.Held, now int) []api.Held {
	return slices.DeleteFunc(slices.Clone(h), func(x api.Held) bool { return x.Till <= now })
}

// otherMap tells what Map is to answer.
func otherMap(d api.Det, l []api.Lease, h []api.Held, at int) api.Used {
	u := api.Used{N: detmap.Blocks(d)}
	bit := 1
	for blk := range u.N {
		had := slices.ContainsFunc(l, func(x api.Lease) bool { return x.Addr == at && x.Blk == blk })
		if had || slices.ContainsFunc(h, func(x api.Held) bool { return x.Addr == at && x.Blk == blk }) {
			u.U += bit
		}
		bit *= 2
	}
	return u
}

// otherBusy tells what Busy is to answer.
func otherBusy(l []api.Lease) []int {
	addrs := map[int]int{}
	for _, x := range l {
		addrs[x.Addr]++
	}
	return slices.Sorted(maps.Keys(addrs))
}

func wantFind(t *testing.T, l []api.Lease, at, blk, want int) {
	t.Helper()
	if k := lease.Find(l, at, blk); k != want {
		t.Fatalf("Find(%v, %d, %d): %d, not %d", l, at, blk, k, want)
	}
}

func wantOf(t *testing.T, l []api.Lease, sub int, want ...int) {
	t.Helper()
	if k := lease.Of(l, sub); !slices.Equal(k, want) {
		t.Fatalf("Of(%v, %d): %v, not %v", l, sub, k, want)
	}
}

// answer is what Put or Del answered.
type answer struct {
	l  []api.Lease
	is bool
}

func told(l []api.Lease, is bool) answer { return answer{l, is} }

func wantPut(t *testing.T, l []api.Lease, x api.Lease, want answer) {
	t.Helper()
	was := slices.Clone(l)
	if got := told(lease.Put(l, x)); got.is != want.is || !slices.Equal(got.l, want.l) || !slices.Equal(l, was) {
		t.Fatalf("Put(%v, %v): %v, not %v; handed in was %v", l, x, got, want, was)
	}
}

func wantDel(t *testing.T, l []api.Lease, at, blk int, want answer) {
	t.Helper()
	was := slices.Clone(l)
	if got := told(lease.Del(l, at, blk)); got.is != want.is || !slices.Equal(got.l, want.l) || !slices.Equal(l, was) {
		t.Fatalf("Del(%v, %d, %d): %v, not %v; handed in was %v", l, at, blk, got, want, was)
	}
}

func wantHold(t *testing.T, h []api.Held, x api.Held, want []api.Held) {
	t.Helper()
	was := slices.Clone(h)
	if got := lease.Hold(h, x); !slices.Equal(got, want) || !slices.Equal(h, was) {
		t.Fatalf("Hold(%v, %v): %v, not %v; handed in was %v", h, x, got, want, was)
	}
}

func wantClean(t *testing.T, h []api.Held, now int, want []api.Held) {
	t.Helper()
	was := slices.Clone(h)
	if got := lease.Clean(h, now); !slices.Equal(got, want) || !slices.Equal(h, was) {
		t.Fatalf("Clean(%v, %d): %v, not %v; handed in was %v", h, now, got, want, was)
	}
}

func wantMap(t *testing.T, d api.Det, l []api.Lease, h []api.Held, at int, want api.Used) {
	t.Helper()
	if got := lease.Map(d, l, h, at); got != want {
		t.Fatalf("Map(%v, %v, %v, %d): %v, not %v", d, l, h, at, got, want)
	}
}

func wantBusy(t *testing.T, l []api.Lease, want ...int) {
	t.Helper()
	was := slices.Clone(l)
	if got := lease.Busy(l); !slices.Equal(got, want) || !slices.Equal(l, was) {
		t.Fatalf("Busy(%v): %v, not %v; handed in was %v", l, got, want, was)
	}
}

func wantSame(t *testing.T, a, b []api.Lease, want bool) {
	t.Helper()
	if lease.Same(a, b) != want || lease.Same(b, a) != want {
		t.Fatalf("Same(%v, %v): not %t", a, b, want)
	}
}

func wantSameHeld(t *testing.T, a, b []api.Held, want bool) {
	t.Helper()
	if lease.SameHeld(a, b) != want || lease.SameHeld(b, a) != want {
		t.Fatalf("SameHeld(%v, %v): not %t", a, b, want)
	}
}

func TestP12_1FindKnown(t *testing.T) {
	l := of(5, 1, 3, 6, 0, 2, 5, 1, 3, 7, 0, 2, 5, 9, 9)
	wantFind(t, l, 1, 3, 0)
	wantFind(t, l, 0, 2, 1)
	wantFind(t, l, 9, 9, 4)
	// A block of which there is none, though its Addr, or its Blk, there is.
	wantFind(t, l, 1, 2, -1)
	wantFind(t, l, 0, 3, -1)
	wantFind(t, l, 9, 3, -1)
	wantFind(t, l, 3, 1, -1)
	wantFind(t, l, 5, 5, -1)
	wantFind(t, l, 0, 0, -1)
	wantFind(t, nil, 0, 0, -1)
	wantFind(t, []api.Lease{}, 0, 0, -1)
	wantFind(t, []api.Lease{{}}, 0, 0, 0)
	wantFind(t, []api.Lease{{}, {}}, 0, 0, 0)
	wantFind(t, of(0, -1, -1), -1, -1, 0)
}

func TestP12_1OfKnown(t *testing.T) {
	l := of(5, 1, 3, 6, 0, 2, 5, 1, 3, 7, 0, 2, 5, 9, 9)
	wantOf(t, l, 5, 0, 2, 4)
	wantOf(t, l, 6, 1)
	wantOf(t, l, 7, 3)
	// No Sub, but an Addr, a Blk, or a place, or none of these.
	wantOf(t, l, 9)
	wantOf(t, l, 3)
	wantOf(t, l, 0)
	wantOf(t, l, -5)
	wantOf(t, nil, 0)
	wantOf(t, []api.Lease{}, 0)
	wantOf(t, []api.Lease{{}, {}}, 0, 0, 1)
	wantOf(t, of(-1, 0, 0), -1, 0)
}

func TestP12_1FindOfAll(t *testing.T) {
	for _, l := range lists() {
		for n := -1; n <= 7; n++ {
			wantOf(t, l, n, otherOf(l, n)...)
			for blk := -1; blk <= 6; blk++ {
				wantFind(t, l, n, blk, otherFind(l, n, blk))
			}
		}
	}
}

func TestP12_1FindOfLong(t *testing.T) {
	for _, n := range sizes() {
		l := long(n)
		for k, x := range l {
			wantFind(t, l, x.Addr, x.Blk, k)
			wantOf(t, l, x.Sub, otherOf(l, x.Sub)...)
		}
		wantFind(t, l, n/8, n%8, -1)
		wantOf(t, l, 4)
		twice := slices.Concat(l, l)
		for k, x := range l {
			wantFind(t, twice, x.Addr, x.Blk, k)
		}
	}
}

func TestP12_1FindOfFar(t *testing.T) {
	var l []api.Lease
	for _, at := range far() {
		for _, blk := range far() {
			l = append(l, api.Lease{Sub: blk, Addr: at, Blk: blk})
		}
	}
	for k, x := range l {
		wantFind(t, l, x.Addr, x.Blk, k)
		wantFind(t, append(slices.Clone(l[:k]), l[k+1:]...), x.Addr, x.Blk, -1)
		wantOf(t, l, x.Sub, otherOf(l, x.Sub)...)
	}
}

func TestP12_1Same(t *testing.T) {
	for _, l := range lists() {
		wantSame(t, l, slices.Clone(l), true)
		wantSameHeld(t, held(l), held(l), true)
		// One more, or one fewer; the same ones in another order.
		wantSame(t, l, append(slices.Clone(l), api.Lease{}), false)
		wantSameHeld(t, held(l), append(held(l), api.Held{}), false)
		if turned := slices.Clone(l); len(l) > 1 {
			slices.Reverse(turned)
			wantSame(t, l, turned, slices.Equal(l, turned))
			wantSameHeld(t, held(l), held(turned), slices.Equal(held(l), held(turned)))
			wantSame(t, l, l[1:], false)
			wantSameHeld(t, held(l), held(l)[:1], false)
		}
	}
	wantSame(t, nil, []api.Lease{}, true)
	wantSame(t, nil, nil, true)
	wantSame(t, nil, []api.Lease{{}}, false)
	wantSame(t, []api.Lease{{}}, []api.Lease{{}, {}}, false)
	wantSame(t, of(1, 2, 3, 4, 5, 6)[:1], of(1, 2, 3), true)
	wantSameHeld(t, nil, []api.Held{}, true)
	wantSameHeld(t, nil, nil, true)
	wantSameHeld(t, nil, []api.Held{{}}, false)
	wantSameHeld(t, []api.Held{{}}, []api.Held{{}, {}}, false)
	wantSameHeld(t, back(1, 2, 3, 4, 5, 6)[:1], back(1, 2, 3), true)
}

// Lists that differ in one part of one element are not the same, wherever it stands, and whatever numbers the part has.
func TestP12_1SameParts(t *testing.T) {
	for _, n := range []int{1, 2, 3, 31, 32, 33} {
		for _, k := range []int{0, n / 2, n - 1} {
			for _, a := range edges() {
				for _, b := range edges() {
					for part := range 5 {
						wantSame(t, leasesWith(n, k, part, a), leasesWith(n, k, part, b), a == b)
					}
					for part := range 3 {
						wantSameHeld(t, heldWith(n, k, part, a), heldWith(n, k, part, b), a == b)
					}
				}
			}
		}
	}
}

// leasesWith are n leases, of which one has that number as one of its parts.
func leasesWith(n, k, part, number int) []api.Lease {
	l := long(n)
	x := &l[k]
	*[]*int{&x.Sub, &x.Addr, &x.Blk, &x.From, &x.Last}[part] = number
	return l
}

// heldWith are n blocks that are held, of which one has that number as one of its parts.
func heldWith(n, k, part, number int) []api.Held {
	h := held(long(n))
	x := &h[k]
	*[]*int{&x.Addr, &x.Blk, &x.Till}[part] = number
	return h
}

func TestP12_2PutKnown(t *testing.T) {
	l := of(5, 1, 3, 6, 1, 5, 7, 4, 0)
	for _, x := range []struct {
		at, blk, place int
	}{
		// Ahead of all, by Addr, and by Blk.
		{0, 9, 0},
		{-1, 9, 0},
		{1, 2, 0},
		{1, -1, 0},
		// Between two of one Addr.
		{1, 4, 1},
		// Between two Addrs.
		{1, 6, 2},
		{1, 9, 2},
		{2, 0, 2},
		{3, 9, 2},
		{4, -1, 2},
		// Behind all, by Blk, and by Addr.
		{4, 1, 3},
		{5, 0, 3},
		{5, -1, 3},
	} {
		y := api.Lease{Sub: 3, Addr: x.at, Blk: x.blk, From: 8, Last: 9}
		wantPut(t, l, y, told(slices.Insert(slices.Clone(l), x.place, y), true))
	}
	// What is there, whatever else is told of it.
	for _, x := range l {
		wantPut(t, l, x, told(l, false))
		wantPut(t, l, api.Lease{Sub: 9, Addr: x.Addr, Blk: x.Blk}, told(l, false))
	}
	wantPut(t, nil, api.Lease{}, told([]api.Lease{{}}, true))
	wantPut(t, []api.Lease{}, l[1], told(l[1:2], true))
	wantPut(t, []api.Lease{{}}, api.Lease{Sub: 1}, told([]api.Lease{{}}, false))
}

// In a list in no order it goes ahead of the first one that stands behind it, whatever stands behind that.
func TestP12_2PutNoOrder(t *testing.T) {
	l := of(1, 3, 0, 2, 1, 5, 3, 3, 0, 4, 2, 2, 5, 1, 1)
	for _, x := range []struct {
		at, blk, place int
	}{
		{0, 0, 0},
		{1, 0, 0},
		{2, 3, 0},
		{2, 9, 0},
		{3, -1, 0},
		{3, 1, 5},
		{9, 9, 5},
	} {
		y := api.Lease{Sub: 8, Addr: x.at, Blk: x.blk}
		wantPut(t, l, y, told(slices.Insert(slices.Clone(l), x.place, y), true))
	}
	// The last one of the block is there, too.
	wantPut(t, l, api.Lease{Addr: 1, Blk: 1}, told(l, false))
	wantPut(t, l, api.Lease{Addr: 3}, told(l, false))
	m := of(1, 1, 5, 2, 0, 0, 3, 7, 7, 4, 4, 4)
	y := api.Lease{Sub: 8, Addr: 3, Blk: 3}
	wantPut(t, m, y, told(slices.Insert(slices.Clone(m), 2, y), true))
	y = api.Lease{Sub: 8, Addr: 1, Blk: 4}
	wantPut(t, m, y, told(slices.Insert(slices.Clone(m), 0, y), true))
	y = api.Lease{Sub: 8, Addr: 1, Blk: 6}
	wantPut(t, m, y, told(slices.Insert(slices.Clone(m), 2, y), true))
}

func TestP12_2PutAll(t *testing.T) {
	for _, l := range lists() {
		for at := -1; at <= 3; at++ {
			for blk := -1; blk <= 6; blk++ {
				x := api.Lease{Sub: 5, Addr: at, Blk: blk, From: 77, Last: 78}
				wantPut(t, l, x, told(otherPut(l, x)))
			}
		}
	}
}

// Up to 31 leases have room for one more; 32, and more, have none, whether the block is there or not.
func TestP12_2PutLong(t *testing.T) {
	for _, n := range sizes() {
		for _, l := range [][]api.Lease{long(n), reversed(long(n)), slices.Repeat([]api.Lease{{Addr: 9, Blk: 9}}, n)} {
			for _, x := range slices.Concat(l, []api.Lease{{Addr: -1}, {Addr: 1, Blk: 8}, {Addr: 2, Blk: -1}, {Addr: 50}, {Addr: 9, Blk: 8}}) {
				want := told(otherPut(l, x))
				if n >= 32 && want.is {
					t.Fatalf("of %d leases", n)
				}
				wantPut(t, l, x, want)
			}
			if got := told(lease.Put(l, api.Lease{Addr: 50})); got.is != (n < 32) {
				t.Fatalf("put to %d leases: %t", n, got.is)
			}
		}
	}
}

func reversed(l []api.Lease) []api.Lease {
	slices.Reverse(l)
	return l
}

// Numbers whose difference wraps around stand where they stand.
func TestP12_2PutFar(t *testing.T) {
	for _, at := range far() {
		for _, blk := range far() {
			l := []api.Lease{{Sub: 1, Addr: at, Blk: blk, From: math.MaxInt, Last: math.MinInt}}
			for _, at := range far() {
				for _, blk := range far() {
					x := api.Lease{Sub: math.MinInt, Addr: at, Blk: blk, From: math.MinInt, Last: math.MaxInt}
					wantPut(t, l, x, told(otherPut(l, x)))
				}
			}
		}
	}
}

func TestP12_2DelKnown(t *testing.T) {
	l := of(5, 1, 3, 6, 1, 5, 7, 4, 0)
	wantDel(t, l, 1, 3, told(l[1:], true))
	wantDel(t, l, 1, 5, told([]api.Lease{l[0], l[2]}, true))
	wantDel(t, l, 4, 0, told(l[:2], true))
	for _, b := range []block{{1, 4}, {4, 3}, {4, 5}, {1, 0}, {0, 0}, {3, 1}, {-1, -1}, {5, 1}} {
		wantDel(t, l, b.at, b.blk, told(l, false))
	}
	// The only one; none at all.
	wantDel(t, l[1:2], 1, 5, told(nil, true))
	wantDel(t, []api.Lease{{}}, 0, 0, told(nil, true))
	wantDel(t, nil, 0, 0, told(nil, false))
	wantDel(t, []api.Lease{}, 0, 0, told(nil, false))
	// Of several of one block the first one goes, and no other.
	m := of(1, 3, 0, 2, 1, 5, 3, 3, 0, 4, 1, 5, 5, 3, 0)
	wantDel(t, m, 3, 0, told(m[1:], true))
	wantDel(t, m, 1, 5, told([]api.Lease{m[0], m[2], m[3], m[4]}, true))
	wantDel(t, m[2:], 1, 5, told([]api.Lease{m[2], m[4]}, true))
	wantDel(t, m[3:], 3, 0, told(m[3:4], true))
}

func TestP12_2DelAll(t *testing.T) {
	for _, l := range lists() {
		for at := -1; at <= 3; at++ {
			for blk := -1; blk <= 6; blk++ {
				wantDel(t, l, at, blk, told(otherDel(l, at, blk)))
			}
		}
	}
	for _, n := range sizes() {
		for _, l := range [][]api.Lease{long(n), reversed(long(n)), slices.Concat(long(n), long(n))} {
			for _, x := range l {
				wantDel(t, l, x.Addr, x.Blk, told(otherDel(l, x.Addr, x.Blk)))
			}
			wantDel(t, l, n/8, n%8, told(l, false))
		}
	}
}

func TestP12_2DelFar(t *testing.T) {
	for _, at := range far() {
		for _, blk := range far() {
			l := []api.Lease{{Addr: blk, Blk: at}, {Addr: at, Blk: blk}, {Addr: at, Blk: blk, Sub: 1}}
			for _, at := range far() {
				for _, blk := range far() {
					wantDel(t, l, at, blk, told(otherDel(l, at, blk)))
				}
			}
		}
	}
}

func TestP12_3HoldKnown(t *testing.T) {
	h := back(1, 3, 9, 1, 5, 8, 4, 0, 9)
	for _, x := range []struct {
		at, blk, place int
	}{
		{0, 9, 0},
		{1, 2, 0},
		{1, 4, 1},
		{1, 6, 2},
		{2, 0, 2},
		{4, -1, 2},
		{4, 1, 3},
		{5, -1, 3},
	} {
		for _, till := range []int{0, 8, 9, -1, math.MaxInt, math.MinInt} {
			y := api.Held{Addr: x.at, Blk: x.blk, Till: till}
			wantHold(t, h, y, slices.Insert(slices.Clone(h), x.place, y))
		}
	}
	// A block that is held, till the same tick, a lesser one, and a greater one.
	for _, till := range []int{8, 9, 10, 0, -1, math.MinInt, math.MaxInt} {
		wantHold(t, h, api.Held{Addr: 1, Blk: 3, Till: till}, back(1, 3, till, 1, 5, 8, 4, 0, 9))
		wantHold(t, h, api.Held{Addr: 1, Blk: 5, Till: till}, back(1, 3, 9, 1, 5, till, 4, 0, 9))
		wantHold(t, h, api.Held{Addr: 4, Blk: 0, Till: till}, back(1, 3, 9, 1, 5, 8, 4, 0, till))
		wantHold(t, h[:1], api.Held{Addr: 1, Blk: 3, Till: till}, back(1, 3, till))
		wantHold(t, nil, api.Held{Addr: 1, Blk: 3, Till: till}, back(1, 3, till))
		wantHold(t, []api.Held{}, api.Held{Till: till}, back(0, 0, till))
	}
}

// Of a block that is held several times all go; the place is told by what is left.
func TestP12_3HoldSeveral(t *testing.T) {
	wantHold(t, back(2, 2, 5, 2, 2, 6, 2, 2, 7), api.Held{Addr: 2, Blk: 2, Till: 6}, back(2, 2, 6))
	wantHold(t, back(2, 2, 5, 1, 0, 6, 2, 2, 7, 3, 0, 4, 2, 2, 5), api.Held{Addr: 2, Blk: 2, Till: 1}, back(1, 0, 6, 2, 2, 1, 3, 0, 4))
	wantHold(t, back(3, 0, 4, 2, 2, 5, 1, 0, 6, 2, 2, 7), api.Held{Addr: 2, Blk: 2, Till: 8}, back(2, 2, 8, 3, 0, 4, 1, 0, 6))
	wantHold(t, back(1, 0, 4, 2, 2, 5, 0, 0, 6, 2, 2, 7), api.Held{Addr: 2, Blk: 2, Till: 8}, back(1, 0, 4, 0, 0, 6, 2, 2, 8))
	// Of another block several stay.
	wantHold(t, back(2, 2, 5, 2, 2, 6), api.Held{Addr: 2, Blk: 3, Till: 1}, back(2, 2, 5, 2, 2, 6, 2, 3, 1))
	wantHold(t, back(2, 2, 5, 2, 2, 6), api.Held{Addr: 2, Blk: 1, Till: 1}, back(2, 1, 1, 2, 2, 5, 2, 2, 6))
	wantHold(t, back(2, 3, 5, 3, 2, 6), api.Held{Addr: 2, Blk: 2, Till: 1}, back(2, 2, 1, 2, 3, 5, 3, 2, 6))
}

func TestP12_3HoldAll(t *testing.T) {
	for _, l := range lists() {
		for at := -1; at <= 3; at++ {
			for blk := -1; blk <= 6; blk++ {
				x := api.Held{Addr: at, Blk: blk, Till: 11}
				wantHold(t, held(l), x, otherHold(held(l), x))
			}
		}
	}
}

// However much is held there is room for more.
func TestP12_3HoldLong(t *testing.T) {
	for _, n := range sizes() {
		for _, l := range [][]api.Lease{long(n), reversed(long(n))} {
			h := held(l)
			for _, x := range slices.Concat(h, back(-1, 0, 9, 1, 8, 9, 2, -1, 9, 50, 0, 9)) {
				x.Till = 99
				wantHold(t, h, x, otherHold(h, x))
			}
			if got := lease.Hold(h, api.Held{Addr: 50, Till: 3}); len(got) != n+1 || got[n] != (api.Held{Addr: 50, Till: 3}) {
				t.Fatalf("of %d: %v", n, got)
			}
		}
	}
}

func TestP12_3HoldFar(t *testing.T) {
	for _, at := range far() {
		for _, blk := range far() {
			h := back(at, blk, math.MinInt)
			for _, at := range far() {
				for _, blk := range far() {
					x := api.Held{Addr: at, Blk: blk, Till: math.MaxInt}
					wantHold(t, h, x, otherHold(h, x))
				}
			}
		}
	}
}

func TestP12_3CleanKnown(t *testing.T) {
	h := back(4, 0, 9, 1, 5, 8, 1, 3, 10, 1, 5, 9)
	wantClean(t, h, 7, h)
	wantClean(t, h, 8, back(4, 0, 9, 1, 3, 10, 1, 5, 9))
	wantClean(t, h, 9, back(1, 3, 10))
	wantClean(t, h, 10, nil)
	wantClean(t, h, 11, nil)
	wantClean(t, h, 0, h)
	wantClean(t, h, -1, h)
	wantClean(t, h, math.MinInt, h)
	wantClean(t, h, math.MaxInt, nil)
	wantClean(t, nil, 0, nil)
	wantClean(t, []api.Held{}, -1, nil)
}

// At any tick, near a Till, and far from it, those stay whose Till is above it.
func TestP12_3CleanFar(t *testing.T) {
	var all []api.Held
	for _, till := range edges() {
		one := back(1, 2, till)
		all = append(all, one...)
		for _, now := range edges() {
			wantClean(t, one, now, otherClean(one, now))
		}
		wantClean(t, one, till, nil)
		if till > math.MinInt {
			wantClean(t, one, till-1, one)
		}
		if till < math.MaxInt {
			wantClean(t, one, till+1, nil)
		}
	}
	for _, now := range edges() {
		wantClean(t, all, now, otherClean(all, now))
	}
}

func TestP12_3CleanAll(t *testing.T) {
	for _, l := range lists() {
		for now := 8; now <= 13; now++ {
			wantClean(t, held(l), now, otherClean(held(l), now))
		}
	}
	for _, n := range sizes() {
		for now := 8; now <= 13; now++ {
			wantClean(t, held(long(n)), now, otherClean(held(long(n)), now))
		}
	}
}

// mapping has 4 public addresses, of which each has that many blocks of 10 ports.
func mapping(n int) api.Det {
	return api.Det{In: api.Prefix{Base: 10 << 24, Bits: 27}, Out: api.Prefix{Base: 11 << 24, Bits: 30}, Lo: 1000, Hi: 1999, Dyn: 10 * n, Block: 10}
}

// wrong are mappings that do not fit.
func wrong() []api.Det {
	l := []api.Det{{}}
	for _, change := range []func(d *api.Det){
		func(d *api.Det) { d.Lo = 0 },
		func(d *api.Det) { d.Hi = 999 },
		func(d *api.Det) { d.Hi = 65536 },
		func(d *api.Det) { d.Block = 0 },
		func(d *api.Det) { d.Block = -10 },
		func(d *api.Det) { d.Block = math.MinInt },
		func(d *api.Det) { d.Block = 65536 },
		func(d *api.Det) { d.Dyn = -1 },
		func(d *api.Det) { d.Dyn = 90 },
		func(d *api.Det) { d.Dyn = 1000 },
		func(d *api.Det) { d.Dyn = math.MaxInt },
		func(d *api.Det) { d.Out = d.In },
		func(d *api.Det) { d.Out.Bits = 29 },
		func(d *api.Det) { d.In.Bits = 26 },
		func(d *api.Det) { d.In.Base++ },
		func(d *api.Det) { d.Out.Bits = -1 },
	} {
		d := mapping(8)
		change(&d)
		l = append(l, d)
	}
	return l
}

func TestP12_4MapKnown(t *testing.T) {
	l := of(1, 0, 1, 2, 1, 0, 3, 3, 7, 4, 0, 4)
	h := back(0, 2, 9, 1, 3, 9, 3, 0, 9, 3, 5, 0)
	for _, x := range []struct {
		n, at, u int
	}{
		{8, 0, 1<<1 | 1<<4 | 1<<2},
		{8, 1, 1<<0 | 1<<3},
		{8, 2, 0},
		{8, 3, 1<<7 | 1<<0 | 1<<5},
		{8, 4, 0},
		{8, -1, 0},
		// The last block, and the one behind it, which does not count.
		{7, 3, 1<<0 | 1<<5},
		{6, 3, 1<<0 | 1<<5},
		{5, 3, 1 << 0},
		{5, 0, 1<<1 | 1<<4 | 1<<2},
		{4, 0, 1<<1 | 1<<2},
		{3, 0, 1<<1 | 1<<2},
		{2, 0, 1 << 1},
		{1, 0, 0},
		{1, 1, 1},
		{0, 0, 0},
		{0, 1, 0},
	} {
		wantMap(t, mapping(x.n), l, h, x.at, api.Used{N: x.n, U: x.u})
	}
	// What is had alone, what is held alone, and nothing.
	wantMap(t, mapping(8), l, nil, 0, api.Used{N: 8, U: 1<<1 | 1<<4})
	wantMap(t, mapping(8), nil, h, 0, api.Used{N: 8, U: 1 << 2})
	wantMap(t, mapping(8), nil, nil, 0, api.Used{N: 8})
	wantMap(t, mapping(8), []api.Lease{}, []api.Held{}, 7, api.Used{N: 8})
}

// A block that is had and held, or named several times, is used, as if it were named once.
func TestP12_4MapSeveral(t *testing.T) {
	l := of(1, 2, 3, 2, 2, 3, 3, 2, 3, 4, 2, 0)
	h := back(2, 3, 9, 2, 3, 8, 2, 1, 9, 2, 1, 9)
	wantMap(t, mapping(8), l, h, 2, api.Used{N: 8, U: 1<<3 | 1<<0 | 1<<1})
	wantMap(t, mapping(8), l[:2], nil, 2, api.Used{N: 8, U: 1 << 3})
	wantMap(t, mapping(8), nil, h[2:], 2, api.Used{N: 8, U: 1 << 1})
	wantMap(t, mapping(8), l[:1], h[:1], 2, api.Used{N: 8, U: 1 << 3})
}

// What is of no block of the map does not count, had or held.
func TestP12_4MapOutside(t *testing.T) {
	for n := range 9 {
		for _, blk := range edges() {
			l, h := of(1, 1, blk), back(1, blk, 9)
			want := api.Used{N: n}
			if blk >= 0 && blk < n {
				want.U = 1 << blk
			}
			wantMap(t, mapping(n), l, nil, 1, want)
			wantMap(t, mapping(n), nil, h, 1, want)
			wantMap(t, mapping(n), l, h, 1, want)
			for _, at := range edges() {
				if at != 1 {
					wantMap(t, mapping(n), l, h, at, api.Used{N: n})
				}
			}
		}
	}
}

// The address is any number: what has that Addr counts, and nothing else.
func TestP12_4MapAnyAddress(t *testing.T) {
	var l []api.Lease
	var h []api.Held
	for i, at := range edges() {
		l = append(l, api.Lease{Sub: at, Addr: at, Blk: i % 8, From: at, Last: at})
		h = append(h, api.Held{Addr: at, Blk: i / 3, Till: at})
	}
	for i, at := range edges() {
		want := api.Used{N: 8, U: 1 << (i % 8)}
		if i/3 < 8 {
			want.U |= 1 << (i / 3)
		}
		wantMap(t, mapping(8), l, h, at, want)
	}
	wantMap(t, mapping(8), l, h, 4, api.Used{N: 8})
}

func TestP12_4MapWrong(t *testing.T) {
	var l []api.Lease
	for blk := -1; blk <= 9; blk++ {
		l = append(l, of(1, 0, blk, 1, 1, blk)...)
	}
	for _, d := range wrong() {
		if detmap.Fit(d) {
			t.Fatalf("%v fits", d)
		}
		for _, at := range edges() {
			wantMap(t, d, l, held(l), at, api.Used{})
			wantMap(t, d, nil, nil, at, api.Used{})
		}
	}
}

func TestP12_4MapAll(t *testing.T) {
	all := lists()
	for i, l := range all {
		h := held(all[i*7%len(all)])
		for _, n := range []int{0, 1, 2, 5, 6, 8} {
			for at := -1; at <= 4; at++ {
				wantMap(t, mapping(n), l, h, at, otherMap(mapping(n), l, h, at))
			}
		}
	}
	for _, n := range sizes() {
		for at := -1; at <= 5; at++ {
			wantMap(t, mapping(8), long(n), nil, at, otherMap(mapping(8), long(n), nil, at))
			wantMap(t, mapping(8), nil, held(long(n)), at, otherMap(mapping(8), long(n), nil, at))
		}
	}
}

func TestP12_4Busy(t *testing.T) {
	wantBusy(t, nil)
	wantBusy(t, []api.Lease{})
	wantBusy(t, []api.Lease{{}}, 0)
	wantBusy(t, of(1, 3, 0, 1, 1, 0, 1, 2, 0), 1, 2, 3)
	wantBusy(t, of(1, 3, 0, 2, 3, 1, 3, 3, 0), 3)
	wantBusy(t, of(1, 3, 0, 1, 0, 0, 1, 3, 0, 1, 0, 1, 1, 3, 0), 0, 3)
	wantBusy(t, of(1, -1, 0, 1, 4, 0, 1, 0, 0, 1, 99, 9, 1, -7, 0, 1, -1, 5), -7, -1, 0, 4, 99)
	wantBusy(t, of(1, math.MaxInt, 0, 1, 0, 0, 1, math.MinInt, 0, 1, math.MaxInt, 0), math.MinInt, 0, math.MaxInt)
	for _, l := range lists() {
		wantBusy(t, l, otherBusy(l)...)
	}
	for _, n := range sizes() {
		wantBusy(t, long(n), otherBusy(long(n))...)
		wantBusy(t, reversed(long(n)), otherBusy(long(n))...)
	}
	chance := rand.New(rand.NewSource(1))
	for range 500 {
		l := slices.Repeat(long(5), 1+chance.Intn(12))
		for i := range l {
			l[i].Addr = edges()[chance.Intn(len(edges()))]
		}
		wantBusy(t, l, otherBusy(l)...)
	}
}

// inOrder tells whether each lease but the first one stands behind the one ahead.
func inOrder(l []api.Lease) bool {
	for k := range l {
		if k > 0 && !isBehind(l[k].Addr, l[k].Blk, l[k-1].Addr, l[k-1].Blk) {
			return false
		}
	}
	return true
}

// heldInOrder tells the same of what is held.
func heldInOrder(h []api.Held) bool {
	for k := range h {
		if k > 0 && !isBehind(h[k].Addr, h[k].Blk, h[k-1].Addr, h[k-1].Blk) {
			return false
		}
	}
	return true
}

// Leases that stand in order stay so, and so does what is held, whatever is put, and taken away.
func TestP12_5StaysInOrder(t *testing.T) {
	chance := rand.New(rand.NewSource(1))
	for range 200 {
		var l []api.Lease
		var h []api.Held
		numbers := edges()
		if chance.Intn(2) == 0 {
			numbers = []int{0, 1, 2, 3}
		}
		number := func() int { return numbers[chance.Intn(len(numbers))] }
		for range 100 {
			x := api.Lease{Sub: number(), Addr: number(), Blk: number(), From: number(), Last: number()}
			y := api.Held{Addr: number(), Blk: number(), Till: number()}
			if chance.Intn(3) > 0 {
				wantPut(t, l, x, told(otherPut(l, x)))
				wantHold(t, h, y, otherHold(h, y))
				l, _ = lease.Put(l, x)
				h = lease.Hold(h, y)
			} else {
				wantDel(t, l, x.Addr, x.Blk, told(otherDel(l, x.Addr, x.Blk)))
				l, _ = lease.Del(l, x.Addr, x.Blk)
			}
			if chance.Intn(9) == 0 {
				wantClean(t, h, y.Till, otherClean(h, y.Till))
				h = lease.Clean(h, y.Till)
			}
			if !inOrder(l) || !heldInOrder(h) || len(l) > 32 {
				t.Fatalf("%v, %v", l, h)
			}
		}
	}
}

// What is put, and taken away, is as it was, in order or in none; and so is what is taken away, and put, where they stand in order.
func TestP12_5AsItWas(t *testing.T) {
	all := lists()
	for _, n := range sizes() {
		all = append(all, long(n), reversed(long(n)))
	}
	for _, l := range all {
		for at := -1; at <= 4; at++ {
			for blk := -1; blk <= 8; blk++ {
				if longer, is := lease.Put(l, api.Lease{Sub: 1, Addr: at, Blk: blk}); is {
					wantFind(t, longer, at, blk, otherFind(longer, at, blk))
					wantDel(t, longer, at, blk, told(l, true))
				}
			}
		}
		for _, x := range l {
			if less, is := lease.Del(l, x.Addr, x.Blk); is && inOrder(l) && len(l) <= 32 {
				wantPut(t, less, x, told(l, true))
			}
		}
	}
}

// roomy is a list with room behind it, and the whole of that memory.
func roomy[T any](l []T, filler T) (list, all []T) {
	all = append(slices.Clone(l), slices.Repeat([]T{filler}, 5)...)
	return all[:len(l)], all
}

// roomyLeases are leases with room behind them, and the whole of that memory.
func roomyLeases(l []api.Lease) (list, all []api.Lease) {
	return roomy(l, api.Lease{Sub: -7, Addr: -7, Blk: -7, From: -7, Last: -7})
}

// roomyHeld is the same of what is held.
func roomyHeld(h []api.Held) (list, all []api.Held) {
	return roomy(h, api.Held{Addr: -7, Blk: -7, Till: -7})
}

// spoil overwrites a list, and the room behind it.
func spoil[T any](l []T, filler T) {
	l = l[:cap(l)]
	for i := range l {
		l[i] = filler
	}
}

// answers are all lists that the calls answer.
type answers struct {
	leases [2][]api.Lease
	held   [2][]api.Held
	places [2][]int
}

func answersOf(l []api.Lease, h []api.Held, at, blk int) answers {
	var a answers
	a.leases[0], _ = lease.Put(l, api.Lease{Sub: 1, Addr: at, Blk: blk})
	a.leases[1], _ = lease.Del(l, at, blk)
	a.held[0] = lease.Hold(h, api.Held{Addr: at, Blk: blk, Till: 12})
	a.held[1] = lease.Clean(h, 10)
	a.places[0] = lease.Of(l, 5)
	a.places[1] = lease.Busy(l)
	return a
}

// spoil overwrites all the lists but those of one place.
func (a answers) spoil(but int) {
	for i := range 2 {
		if i != but {
			spoil(a.leases[i], api.Lease{Sub: -9, Addr: -9})
			spoil(a.held[i], api.Held{Addr: -9})
			spoil(a.places[i], -9)
		}
	}
}

// isSame tells whether the lists of one place are the same.
func (a answers) isSame(b answers, i int) bool {
	return slices.Equal(a.leases[i], b.leases[i]) && slices.Equal(a.held[i], b.held[i]) && slices.Equal(a.places[i], b.places[i])
}

// several are lists of all kinds, and long ones.
func several() [][]api.Lease {
	var all [][]api.Lease
	for i, l := range lists() {
		if i%3 == 0 || len(l) < 3 {
			all = append(all, l)
		}
	}
	for _, n := range sizes() {
		all = append(all, long(n), reversed(long(n)))
	}
	return all
}

// Calls change nothing of what is handed in, nor of what stands behind it; nor do changes to what they answer.
func TestR3HandedInStays(t *testing.T) {
	for _, x := range several() {
		for _, b := range append(blocks(), block{-1, 0}, block{0, 2}, block{1, 5}, block{9, 9}) {
			l, allLeases := roomyLeases(x)
			h, allHeld := roomyHeld(held(x))
			wasLeases, wasHeld := slices.Clone(allLeases), slices.Clone(allHeld)
			lease.Find(l, b.at, b.blk)
			lease.Map(mapping(8), l, h, b.at)
			lease.Same(l, l)
			lease.SameHeld(h, h)
			a := answersOf(l, h, b.at, b.blk)
			a.spoil(-1)
			for i := range 2 {
				_ = append(a.leases[i], api.Lease{Sub: -8})
				_ = append(a.held[i], api.Held{Till: -8})
			}
			if !slices.Equal(allLeases, wasLeases) || !slices.Equal(allHeld, wasHeld) {
				t.Fatalf("%v, asked with %v: %v, %v", x, b, allLeases, allHeld)
			}
		}
	}
}

// What is answered is the caller's own: changes to what was handed in, or to another answer, change nothing of it.
func TestR3AnswersAreTheCallersOwn(t *testing.T) {
	for _, x := range several() {
		for _, b := range append(blocks(), block{-1, 0}, block{0, 2}, block{1, 5}, block{9, 9}) {
			want := answersOf(x, held(x), b.at, b.blk)
			for i := range 2 {
				l, allLeases := roomyLeases(x)
				h, allHeld := roomyHeld(held(x))
				got := answersOf(l, h, b.at, b.blk)
				spoil(allLeases, api.Lease{Sub: -9, Addr: -9})
				spoil(allHeld, api.Held{Addr: -9})
				got.spoil(i)
				if !got.isSame(want, i) {
					t.Fatalf("%v, asked with %v: %v, not %v", x, b, got, want)
				}
			}
		}
	}
}

// No call hangs on the ones ahead.
func TestR5NothingIsKept(t *testing.T) {
	l, h := of(5, 0, 1, 5, 1, 0), back(0, 1, 7, 1, 0, 9)
	for range 3 {
		wantPut(t, l, api.Lease{Addr: 1}, told(l, false))
		wantPut(t, l, api.Lease{Addr: 0, Blk: 5}, told([]api.Lease{l[0], {Blk: 5}, l[1]}, true))
		wantDel(t, l, 0, 1, told(l[1:], true))
		wantDel(t, l, 0, 0, told(l, false))
		wantHold(t, h, api.Held{Addr: 0, Blk: 1, Till: 2}, back(0, 1, 2, 1, 0, 9))
		wantClean(t, h, 7, h[1:])
		wantMap(t, mapping(2), l, h[1:], 0, api.Used{N: 2, U: 2})
		wantOf(t, l, 5, 0, 1)
		wantBusy(t, l, 0, 1)
	}
}

// Whatever numbers calls are made with, they end, and answer by the document's words.
func TestP1AnyNumbers(t *testing.T) {
	for _, n := range edges() {
		for _, m := range edges() {
			x := api.Lease{Sub: n, Addr: m, Blk: n, From: m, Last: n}
			y := api.Held{Addr: m, Blk: n, Till: m}
			for _, l := range [][]api.Lease{nil, {x}, {x, x}, of(0, n, m, 0, m, n, 0, n, n), append(of(1, 0, 0, 1, 1, 1), x), reversed(append(long(31), x))} {
				h := append(held(l), y)
				wantFind(t, l, n, m, otherFind(l, n, m))
				wantOf(t, l, n, otherOf(l, n)...)
				wantPut(t, l, x, told(otherPut(l, x)))
				wantDel(t, l, n, m, told(otherDel(l, n, m)))
				wantHold(t, h, y, otherHold(h, y))
				wantClean(t, h, n, otherClean(h, n))
				wantBusy(t, l, otherBusy(l)...)
				for _, d := range []api.Det{mapping(3), mapping(8), {In: api.Prefix{Base: n, Bits: m}, Out: api.Prefix{Base: m, Bits: n}, Lo: n, Hi: m, Dyn: n, Block: m}} {
					wantMap(t, d, l, h, m, otherMap(d, l, h, m))
				}
			}
		}
	}
}

// The document's example: a lease of block 2 of address 0, put to one of block 1 of address 1, stands ahead.
func TestExample(t *testing.T) {
	l := []api.Lease{{Sub: 1, Addr: 1, Blk: 1}}
	x := api.Lease{Sub: 2, Addr: 0, Blk: 2}
	wantPut(t, l, x, told([]api.Lease{x, l[0]}, true))
}
