package pool_test

import (
	"math"
	"math/rand"
	"slices"
	"testing"

	"moorings/api"
	"moorings/pool"
)

// of are pools told by threes: From, N, St, From, N, St ...
func of(threes ...int) []api.Pool {
	var l []api.Pool
	for i := 0; i+2 < len(threes); i += 3 {
		l = append(l, api.Pool{From: threes[i], N: threes[i+1], St: threes[i+2]})
	}
	return l
}

// some are pools, of so many public addresses.
type some struct {
	l   []api.Pool
	out int
}

// goods are all pools that may be, of each number of public addresses.
func goods() []some {
	var all []some
	for out := 0; out <= 4; out++ {
		// The lists are gone through while longer ones are put behind them.
		lists := [][]api.Pool{nil}
		for at := 0; at < len(lists); at++ {
			lists = append(lists, oneMore(lists[at], out)...)
			all = append(all, some{lists[at], out})
		}
		all = append(all, some{[]api.Pool{}, out})
	}
	return all
}

// oneMore are lists of one pool more than one has, that may be.
func oneMore(l []api.Pool, out int) [][]api.Pool {
	var all [][]api.Pool
	for from := 0; from < out; from++ {
		for n := 1; from+n <= out; n++ {
			for st := 0; st <= 1; st++ {
				longer := append(slices.Clone(l), api.Pool{From: from, N: n, St: st})
				if otherMay(longer, out) {
					all = append(all, longer)
				}
			}
		}
	}
	return all
}

// few are some of the goods, of all kinds.
func few() []some {
	var l []some
	for i, x := range goods() {
		if i%5 == 0 || len(x.l) < 2 {
			l = append(l, x)
		}
	}
	return l
}

// named are pools that may not be, and why.
type named struct {
	why string
	some
}

// bads are pools that may not be, each for one reason, where it can be so.
func bads() []named {
	var l []named
	add := func(why string, out int, threes ...int) {
		l = append(l, named{why, some{of(threes...), out}})
	}
	add("no pools of -1 addresses", -1)
	add("no pools of 5 addresses", 5)
	add("no pools of the least number of addresses", math.MinInt)
	add("no pools of the greatest number of addresses", math.MaxInt)
	add("a pool of -1 addresses", -1, 0, 1, 0)
	add("a pool of 5 addresses", 5, 0, 1, 0)
	add("a pool of 5 addresses that has four", 5, 1, 4, 0)
	add("a pool of the greatest number of addresses", math.MaxInt, 0, 1, 0)
	add("a pool of no addresses", 0, 0, 1, 0)
	add("a From of -1", 4, -1, 1, 0)
	add("a From of -1, of which 0 is", 4, -1, 2, 0)
	add("the least From", 4, math.MinInt, 1, 0)
	add("the least From, and the greatest N", 4, math.MinInt, math.MaxInt, 0)
	add("the last From is -1", 4, 1, 1, 0, -1, 1, 0)
	add("a From of out", 4, 4, 1, 0)
	add("a From of out, of 3", 3, 3, 1, 0)
	add("a From of out, N of 0", 4, 4, 0, 0)
	add("a From of 5", 4, 5, 1, 0)
	add("a From of 5, N of -1", 4, 5, -1, 0)
	add("the greatest From", 4, math.MaxInt, 1, 0)
	add("the greatest From and N", 4, math.MaxInt, math.MaxInt, 0)
	add("an N of 0", 4, 0, 0, 0)
	add("an N of 0, of no addresses", 0, 0, 0, 0)
	add("the first N is 0", 4, 0, 0, 0, 0, 1, 0)
	add("an N of -1", 4, 3, -1, 0)
	add("the least N", 4, 3, math.MinInt, 0)
	add("an N of 5", 4, 0, 5, 0)
	add("an N of 5, From of -1", 4, -1, 5, 0)
	add("the greatest N", 4, 0, math.MaxInt, 0)
	add("the greatest N, From of 1", 4, 1, math.MaxInt, 0)
	add("one more than out", 4, 1, 4, 0)
	add("one more than out, at last", 4, 3, 2, 0)
	add("one more than out, of 3", 3, 2, 2, 0)
	add("one more than out, of 1", 1, 0, 2, 0)
	add("the last one has one more than out", 4, 0, 1, 0, 2, 3, 0)
	add("a St of -1", 4, 0, 1, -1)
	add("a St of 2", 4, 0, 1, 2)
	add("the least St", 4, 0, 1, math.MinInt)
	add("the greatest St", 4, 0, 1, math.MaxInt)
	add("the last St is 2", 4, 0, 1, 0, 1, 1, 1, 2, 1, 2)
	add("two are one", 4, 1, 2, 0, 1, 2, 0)
	add("two are one, but for St", 4, 1, 2, 0, 1, 2, 1)
	add("two share one", 4, 0, 2, 0, 1, 2, 0)
	add("two share one, the upper one ahead", 4, 1, 2, 0, 0, 2, 0)
	add("two share the first one", 4, 0, 1, 0, 0, 4, 0)
	add("two share the last one", 4, 3, 1, 1, 0, 4, 0)
	add("one lies within another one", 4, 0, 4, 0, 1, 2, 1)
	add("one lies within another one, the lesser ahead", 4, 1, 1, 0, 0, 3, 1)
	add("the first and the last share one", 4, 0, 1, 0, 1, 1, 0, 0, 1, 0)
	add("the last two share one", 4, 0, 1, 0, 1, 2, 0, 2, 2, 0)
	add("four pools", 4, 0, 1, 0, 1, 1, 0, 2, 1, 0, 3, 1, 0)
	add("four pools that drain", 4, 3, 1, 1, 2, 1, 1, 1, 1, 1, 0, 1, 1)
	l = append(l, named{"1000 pools", some{make([]api.Pool, 1000), 4}})
	return l
}

// edges are numbers around all that the chapter names, and far from it.
func edges() []int {
	return []int{math.MinInt, math.MinInt + 1, math.MinInt + 4, -1 << 32, -5, -4, -3, -2, -1, 0, 1, 2, 3, 4, 5, 6, 7, 8, 1 << 31, 1 << 32, 1<<32 + 1, 1 << 62, math.MaxInt - 4, math.MaxInt - 3, math.MaxInt - 2, math.MaxInt - 1, math.MaxInt}
}

// busies are lists of busy places: each set of the places 0 to 3, and others, with places beside, more than once, in any order.
func busies() [][]int {
	var all [][]int
	for set := range 16 {
		var l []int
		for at := range 4 {
			if set>>at&1 == 1 {
				l = append(l, at)
			}
		}
		all = append(all, l)
	}
	return append(all, []int{}, []int{4}, []int{-1}, []int{5, 4, -1}, edges()[:9], edges()[13:], []int{3, 3, 3}, []int{2, 9, 2}, []int{1, 0, 1, 0}, []int{math.MaxInt, 1}, []int{math.MinInt, 2, math.MinInt}, edges())
}

// placesOf are the addresses that a pool has, by the document's words.
func placesOf(p api.Pool) []int {
	var l []int
	if slices.Contains([]int{0, 1, 2, 3, 4}, p.From) && slices.Contains([]int{1, 2, 3, 4}, p.N) {
		for i := range p.N {
			l = append(l, p.From+i)
		}
	}
	return l
}

// otherMay asks the document's words by another way.
func otherMay(l []api.Pool, out int) bool {
	if !slices.Contains([]int{0, 1, 2, 3, 4}, out) || len(l) >= 4 {
		return false
	}
	pools := map[int]int{}
	for _, p := range l {
		places := placesOf(p)
		for _, at := range places {
			pools[at]++
			if at >= out || pools[at] != 1 {
				return false
			}
		}
		if len(places) == 0 || p.St != 0 && p.St != 1 {
			return false
		}
	}
	return true
}

// otherOf asks the document's words by another way.
func otherOf(l []api.Pool, at int) int {
	return slices.IndexFunc(l, func(p api.Pool) bool { return slices.Contains(placesOf(p), at) })
}

// otherFit tells whether n addresses from one on are all below out.
func otherFit(out, from, n int) bool {
	return otherMay([]api.Pool{{From: from, N: n}}, out)
}

// otherMeet tells whether a pool of a list has one of n addresses from one on.
func otherMeet(l []api.Pool, from, n int) bool {
	return slices.ContainsFunc(placesOf(api.Pool{From: from, N: n}), func(at int) bool { return otherOf(l, at) >= 0 })
}

// without are pools without one.
func without(l []api.Pool, k int) []api.Pool {
	return slices.Concat(l[:k], l[k+1:])
}

// with are pools, the one of a place being another one.
func with(l []api.Pool, k int, p api.Pool) []api.Pool {
	return slices.Concat(l[:k], []api.Pool{p}, l[k+1:])
}

// otherAdd tells what Add is to answer.
func otherAdd(l []api.Pool, out, from, n int) ([]api.Pool, api.Errno) {
	if !otherMay(l, out) || !otherFit(out, from, n) {
		return l, api.ErrArg
	}
	if otherMeet(l, from, n) {
		return l, api.ErrThere
	}
	if len(l) >= 3 {
		return l, api.ErrFull
	}
	return append(slices.Clone(l), api.Pool{From: from, N: n, St: 0}), api.OK
}

// otherDrain tells what Drain is to answer.
func otherDrain(l []api.Pool, out, k int) ([]api.Pool, api.Errno) {
	if !otherMay(l, out) {
		return l, api.ErrArg
	}
	if k <= -1 || k >= len(l) {
		return l, api.ErrNone
	}
	if l[k].St == 1 {
		return l, api.ErrThere
	}
	return with(l, k, api.Pool{From: l[k].From, N: l[k].N, St: 1}), api.OK
}

// otherSize tells what Size is to answer.
func otherSize(l []api.Pool, out, k, n int, busy []int) ([]api.Pool, api.Errno) {
	if !otherMay(l, out) {
		return l, api.ErrArg
	}
	if k <= -1 || k >= len(l) {
		return l, api.ErrNone
	}
	p := l[k]
	if !otherFit(out, p.From, n) {
		return l, api.ErrArg
	}
	if otherMeet(without(l, k), p.From, n) {
		return l, api.ErrThere
	}
	for i, at := range placesOf(p) {
		if i >= n && slices.Contains(busy, at) {
			return l, api.ErrBusy
		}
	}
	return with(l, k, api.Pool{From: p.From, N: n, St: p.St}), api.OK
}

// otherGone tells what Gone is to answer.
func otherGone(l []api.Pool, out, k int, busy []int) ([]api.Pool, api.Errno) {
	if !otherMay(l, out) {
		return l, api.ErrArg
	}
	if k <= -1 || k >= len(l) {
		return l, api.ErrNone
	}
	if l[k].St == 0 {
		return l, api.ErrBusy
	}
	for _, at := range placesOf(l[k]) {
		if slices.Contains(busy, at) {
			return l, api.ErrBusy
		}
	}
	return without(l, k), api.OK
}

func wantMay(t *testing.T, l []api.Pool, out int, want bool) {
	t.Helper()
	if pool.May(l, out) != want {
		t.Fatalf("May(%v, %d): not %t", l, out, want)
	}
}

func wantSame(t *testing.T, a, b []api.Pool, want bool) {
	t.Helper()
	if pool.Same(a, b) != want || pool.Same(b, a) != want {
		t.Fatalf("Same(%v, %v): not %t", a, b, want)
	}
}

func wantOf(t *testing.T, l []api.Pool, at, want int) {
	t.Helper()
	if k := pool.Of(l, at); k != want {
		t.Fatalf("Of(%v, %d): %d, not %d", l, at, k, want)
	}
	gives := want >= 0 && l[want].St == 0
	if pool.Gives(l, at) != gives {
		t.Fatalf("Gives(%v, %d): not %t", l, at, gives)
	}
}

// answer is what one of the four calls answered.
type answer struct {
	l []api.Pool
	e api.Errno
}

func told(l []api.Pool, e api.Errno) answer { return answer{l, e} }

func (a answer) isSame(b answer) bool { return a.e == b.e && slices.Equal(a.l, b.l) }

func wantAdd(t *testing.T, l []api.Pool, out, from, n int, want answer) {
	t.Helper()
	if got := told(pool.Add(l, out, from, n)); !got.isSame(want) {
		t.Fatalf("Add(%v, %d, %d, %d): %v, not %v", l, out, from, n, got, want)
	}
}

func wantDrain(t *testing.T, l []api.Pool, out, k int, want answer) {
	t.Helper()
	if got := told(pool.Drain(l, out, k)); !got.isSame(want) {
		t.Fatalf("Drain(%v, %d, %d): %v, not %v", l, out, k, got, want)
	}
}

func wantSize(t *testing.T, l []api.Pool, out, k, n int, busy []int, want answer) {
	t.Helper()
	if got := told(pool.Size(l, out, k, n, busy)); !got.isSame(want) {
		t.Fatalf("Size(%v, %d, %d, %d, %v): %v, not %v", l, out, k, n, busy, got, want)
	}
}

func wantGone(t *testing.T, l []api.Pool, out, k int, busy []int, want answer) {
	t.Helper()
	if got := told(pool.Gone(l, out, k, busy)); !got.isSame(want) {
		t.Fatalf("Gone(%v, %d, %d, %v): %v, not %v", l, out, k, busy, got, want)
	}
}

func TestP11_1May(t *testing.T) {
	kinds := map[[2]int]int{}
	for _, x := range goods() {
		wantMay(t, x.l, x.out, true)
		kinds[[2]int{len(x.l), x.out}]++
	}
	// Of fewer addresses than pools there can't be as many.
	for _, x := range [][3]int{{0, 0, 2}, {0, 4, 2}, {1, 1, 2}, {1, 4, 20}, {2, 2, 8}, {2, 4, 120}, {3, 3, 48}, {3, 4, 336}} {
		if kinds[[2]int{x[0], x[1]}] != x[2] {
			t.Fatalf("%d lists of %d pools of %d, not %d", kinds[[2]int{x[0], x[1]}], x[0], x[1], x[2])
		}
	}
}

func TestP11_1MayKnown(t *testing.T) {
	for _, x := range []some{
		{nil, 0}, {nil, 1}, {nil, 4}, {[]api.Pool{}, 0}, {[]api.Pool{}, 4},
		{of(0, 1, 0), 1}, {of(0, 1, 1), 1}, {of(0, 4, 0), 4}, {of(3, 1, 1), 4}, {of(1, 3, 0), 4}, {of(1, 2, 0), 3},
		{of(0, 2, 0, 2, 2, 1), 4}, {of(2, 2, 0, 0, 2, 0), 4}, {of(0, 1, 1, 3, 1, 1), 4}, {of(1, 3, 0, 0, 1, 0), 4},
		{of(0, 1, 0, 1, 1, 0, 2, 1, 0), 3}, {of(2, 1, 1, 0, 1, 0, 1, 1, 1), 3}, {of(0, 1, 0, 1, 2, 0, 3, 1, 0), 4}, {of(3, 1, 0, 0, 2, 1, 2, 1, 0), 4},
	} {
		wantMay(t, x.l, x.out, true)
	}
}

func TestP11_1MayNot(t *testing.T) {
	for _, x := range bads() {
		if pool.May(x.l, x.out) {
			t.Fatalf("May(%v, %d): %s", x.l, x.out, x.why)
		}
	}
}

// All lists of up to three pools of few numbers, in any order, of any number of addresses.
func TestP11_1MaySmallAll(t *testing.T) {
	var all []api.Pool
	for from := -1; from <= 5; from++ {
		for n := -1; n <= 5; n++ {
			for st := -1; st <= 2; st++ {
				all = append(all, api.Pool{From: from, N: n, St: st})
			}
		}
	}
	for out := -1; out <= 5; out++ {
		for _, a := range all {
			wantMay(t, []api.Pool{a}, out, otherMay([]api.Pool{a}, out))
			for _, b := range all {
				two := []api.Pool{a, b}
				may := otherMay(two, out)
				wantMay(t, two, out, may)
				// Only where two may be can a third one matter.
				for i := 0; may && i < len(all); i++ {
					three := []api.Pool{a, b, all[i]}
					wantMay(t, three, out, otherMay(three, out))
				}
			}
		}
	}
}

// Of pools that may be one number is made another one, or out is.
func TestP11_1MayOfOneChange(t *testing.T) {
	for _, x := range goods() {
		for _, n := range edges() {
			wantMay(t, x.l, n, otherMay(x.l, n))
			for k, p := range x.l {
				for _, l := range [][]api.Pool{
					with(x.l, k, api.Pool{From: n, N: p.N, St: p.St}),
					with(x.l, k, api.Pool{From: p.From, N: n, St: p.St}),
					with(x.l, k, api.Pool{From: p.From, N: p.N, St: n}),
				} {
					wantMay(t, l, x.out, otherMay(l, x.out))
				}
			}
		}
	}
}

func TestP11_1Same(t *testing.T) {
	for _, x := range goods() {
		wantSame(t, x.l, slices.Clone(x.l), true)
	}
	for _, x := range bads() {
		wantSame(t, x.l, slices.Clone(x.l), true)
	}
	wantSame(t, nil, []api.Pool{}, true)
	wantSame(t, nil, nil, true)
}

// Pools that differ in one part, in how many they are, or in their order, whether they may be or not.
func TestP11_1SameNot(t *testing.T) {
	for _, x := range [][2][]api.Pool{
		{nil, of(0, 0, 0)},
		{nil, of(0, 1, 0)},
		{of(0, 1, 0), of(1, 1, 0)},
		{of(0, 1, 0), of(0, 2, 0)},
		{of(0, 1, 0), of(0, 1, 1)},
		{of(0, 1, 0), of(1, 0, 0)},
		{of(0, 1, 0), of(0, 0, 1)},
		{of(1, 2, 0), of(2, 1, 0)},
		{of(0, 1, 0), of(0, 1, 0, 0, 1, 0)},
		{of(0, 1, 0), of(0, 1, 0, 1, 1, 0)},
		{of(1, 1, 0), of(0, 1, 0, 1, 1, 0)},
		{of(0, 1, 0, 1, 1, 0), of(1, 1, 0, 0, 1, 0)},
		{of(0, 1, 0, 1, 1, 1), of(0, 1, 1, 1, 1, 0)},
		{of(0, 1, 0, 1, 1, 0), of(0, 1, 0, 1, 2, 0)},
		{of(0, 1, 0, 1, 1, 0), of(0, 1, 0, 1, 1, 1)},
		{of(0, 1, 0, 1, 1, 0, 2, 1, 0), of(0, 1, 0, 1, 1, 0, 3, 1, 0)},
		{of(0, 1, 0, 1, 1, 0, 2, 1, 0), of(0, 1, 0, 1, 1, 1, 2, 1, 0)},
		{of(0, 1, 0, 1, 1, 0, 2, 1, 0), of(0, 1, 0, 2, 1, 0, 1, 1, 0)},
		{of(0, 1, 0, 1, 1, 0, 2, 1, 0), of(0, 1, 0, 1, 1, 0, 2, 1, 0, 3, 1, 0)},
		{of(math.MaxInt, 1, 0), of(math.MinInt, 1, 0)},
		{of(0, 1<<32, 0), of(0, 0, 0)},
		{make([]api.Pool, 1000), make([]api.Pool, 999)},
	} {
		wantSame(t, x[0], x[1], false)
	}
}

// Of all these lists no two are the same, but where all parts are.
func TestP11_1SameEachWithEach(t *testing.T) {
	l := few()
	for _, x := range bads() {
		l = append(l, x.some)
	}
	for _, a := range l {
		for _, b := range l {
			if pool.Same(a.l, b.l) != slices.Equal(a.l, b.l) {
				t.Fatalf("Same(%v, %v): not %t", a.l, b.l, slices.Equal(a.l, b.l))
			}
		}
	}
}

func TestP11_1OfKnown(t *testing.T) {
	l := of(1, 2, 0, 0, 1, 1, 3, 1, 0)
	for at, want := range []int{1, 0, 0, 2, -1} {
		wantOf(t, l, at, want)
	}
	for _, at := range []int{-1, 4, 5, math.MinInt, math.MaxInt, 1<<32 + 1} {
		wantOf(t, l, at, -1)
		wantOf(t, nil, at, -1)
	}
	wantOf(t, nil, 0, -1)
	wantOf(t, []api.Pool{}, 0, -1)
	if !pool.Gives(l, 2) || pool.Gives(l, 0) || !pool.Gives(l, 3) || pool.Gives(l, 4) {
		t.Fatalf("Gives(%v, ..)", l)
	}
}

// Pools that may not be have addresses too, as long as From is from 0 to 4, and N from 1 to 4: the first one that has one counts.
func TestP11_1OfWhatMayNotBe(t *testing.T) {
	for _, x := range []struct {
		l        []api.Pool
		at, want int
	}{
		{of(4, 1, 0), 4, 0}, {of(4, 4, 0), 7, 0}, {of(4, 4, 0), 8, -1}, {of(4, 4, 0), 3, -1}, {of(4, 4, 0), 6, 0},
		{of(5, 1, 0), 5, -1}, {of(3, 4, 0, 5, 1, 1), 5, 0}, {of(5, 1, 0, 3, 4, 1), 5, 1},
		{of(0, 5, 0), 0, -1}, {of(0, 5, 0), 4, -1}, {of(0, 4, 0), 3, 0}, {of(0, 4, 0), 4, -1},
		{of(-1, 2, 0), 0, -1}, {of(-1, 2, 0), -1, -1}, {of(-1, 1, 0), -1, -1},
		{of(0, 0, 0), 0, -1}, {of(2, 0, 0), 2, -1}, {of(2, -1, 0), 2, -1}, {of(2, -1, 0), 1, -1},
		{of(1, 2, 1, 1, 2, 0), 1, 0}, {of(1, 2, 0, 1, 2, 1), 2, 0}, {of(0, 2, 0, 1, 2, 1), 1, 0}, {of(0, 2, 0, 1, 2, 1), 2, 1},
		{of(0, 9, 0, 0, 4, 1), 2, 1}, {of(0, 1, 2), 0, 0}, {of(0, 1, -1), 0, 0}, {of(0, 1, math.MaxInt), 0, 0},
		{of(0, 1, 0, 1, 1, 0, 2, 1, 0, 3, 1, 0), 3, 3}, {of(0, 1, 0, 1, 1, 0, 2, 1, 0, 3, 1, 0, 4, 1, 1), 4, 4},
		{of(math.MaxInt, 1, 0), math.MaxInt, -1}, {of(math.MinInt, 1, 0), math.MinInt, -1}, {of(1, math.MaxInt, 0), 1, -1},
		{of(1, math.MaxInt, 0), math.MinInt, -1}, {of(math.MaxInt, math.MaxInt, 0), -2, -1}, {of(1, 4, 0), math.MinInt, -1}, {of(4, 4, 0), math.MinInt, -1}, {of(4, 4, 0), math.MaxInt, -1},
	} {
		wantOf(t, x.l, x.at, x.want)
	}
	last := append(make([]api.Pool, 1000), api.Pool{From: 2, N: 1})
	wantOf(t, last, 2, 1000)
}

// Of all lists of up to two pools of few numbers, and of some of any, each address.
func TestP11_1OfAll(t *testing.T) {
	var all []api.Pool
	for from := -1; from <= 5; from++ {
		for n := -1; n <= 5; n++ {
			for _, st := range []int{0, 1, 2} {
				all = append(all, api.Pool{From: from, N: n, St: st})
			}
		}
	}
	for at := -2; at <= 10; at++ {
		for _, a := range all {
			wantOf(t, []api.Pool{a}, at, otherOf([]api.Pool{a}, at))
			for _, b := range all {
				wantOf(t, []api.Pool{a, b}, at, otherOf([]api.Pool{a, b}, at))
			}
		}
	}
	for _, from := range edges() {
		for _, n := range edges() {
			for _, at := range edges() {
				l := []api.Pool{{From: from, N: n, St: 1}, {From: n, N: at}, {From: at, N: from}, {From: 2, N: 2}}
				wantOf(t, l, at, otherOf(l, at))
			}
		}
	}
}

// Of each address that pools that may be have one alone has it, and it gives it as long as it is Active.
func TestP11_1OfGoods(t *testing.T) {
	for _, x := range goods() {
		for at := -2; at <= 9; at++ {
			wantOf(t, x.l, at, otherOf(x.l, at))
		}
		for _, at := range edges() {
			wantOf(t, x.l, at, otherOf(x.l, at))
		}
	}
}

func TestP11_2AddKnown(t *testing.T) {
	for _, x := range []struct {
		some
		from, n int
		want    []api.Pool
	}{
		{some{nil, 4}, 1, 2, of(1, 2, 0)},
		{some{nil, 4}, 0, 4, of(0, 4, 0)},
		{some{nil, 1}, 0, 1, of(0, 1, 0)},
		{some{[]api.Pool{}, 4}, 3, 1, of(3, 1, 0)},
		{some{of(1, 2, 0), 4}, 0, 1, of(1, 2, 0, 0, 1, 0)},
		{some{of(1, 2, 1), 4}, 3, 1, of(1, 2, 1, 3, 1, 0)},
		{some{of(0, 1, 1, 3, 1, 0), 4}, 1, 2, of(0, 1, 1, 3, 1, 0, 1, 2, 0)},
		{some{of(0, 1, 1, 3, 1, 1), 4}, 2, 1, of(0, 1, 1, 3, 1, 1, 2, 1, 0)},
		{some{of(1, 1, 0, 0, 1, 0), 3}, 2, 1, of(1, 1, 0, 0, 1, 0, 2, 1, 0)},
	} {
		wantAdd(t, x.l, x.out, x.from, x.n, told(x.want, api.OK))
	}
}

func TestP11_2AddErrArg(t *testing.T) {
	for _, x := range goods() {
		for _, bad := range [][2]int{
			{-1, 1}, {-1, 2}, {-1, 5}, {-4, 5}, {math.MinInt, 1}, {math.MinInt, math.MaxInt}, {math.MinInt, math.MinInt},
			{0, 0}, {3, 0}, {4, 0}, {0, -1}, {3, -1}, {1, math.MinInt}, {0, math.MinInt},
			{0, x.out + 1}, {1, x.out}, {3, x.out - 2}, {x.out, 1}, {x.out + 1, 1}, {x.out + 1, -1}, {x.out, 0},
			{0, 5}, {1, 4}, {2, 3}, {3, 2}, {4, 1}, {5, 1}, {5, -1},
			{0, math.MaxInt}, {1, math.MaxInt}, {math.MaxInt, 1}, {math.MaxInt, math.MaxInt}, {math.MaxInt, math.MinInt}, {2, math.MaxInt - 1}, {math.MaxInt - 3, 4}, {1 << 62, 1 << 62}, {1 << 32, 1}, {0, 1<<32 + 1},
		} {
			wantAdd(t, x.l, x.out, bad[0], bad[1], told(x.l, api.ErrArg))
		}
	}
}

func TestP11_2AddErrThere(t *testing.T) {
	for _, x := range goods() {
		for _, p := range x.l {
			wantAdd(t, x.l, x.out, p.From, p.N, told(x.l, api.ErrThere))
			wantAdd(t, x.l, x.out, p.From, 1, told(x.l, api.ErrThere))
			wantAdd(t, x.l, x.out, p.From+p.N-1, 1, told(x.l, api.ErrThere))
			wantAdd(t, x.l, x.out, 0, x.out, told(x.l, api.ErrThere))
			wantAdd(t, x.l, x.out, p.From, x.out-p.From, told(x.l, api.ErrThere))
			wantAdd(t, x.l, x.out, 0, p.From+1, told(x.l, api.ErrThere))
		}
	}
	// One that drains has its addresses too.
	wantAdd(t, of(1, 2, 1), 4, 2, 2, told(of(1, 2, 1), api.ErrThere))
	wantAdd(t, of(1, 2, 1), 4, 0, 2, told(of(1, 2, 1), api.ErrThere))
	wantAdd(t, of(3, 1, 0, 1, 1, 1), 4, 0, 2, told(of(3, 1, 0, 1, 1, 1), api.ErrThere))
}

func TestP11_2AddErrFull(t *testing.T) {
	for _, x := range []struct {
		l    []api.Pool
		from int
	}{
		{of(0, 1, 0, 1, 1, 0, 2, 1, 0), 3}, {of(1, 1, 1, 2, 1, 1, 3, 1, 1), 0}, {of(3, 1, 0, 0, 1, 1, 2, 1, 0), 1}, {of(3, 1, 0, 0, 1, 1, 1, 1, 0), 2},
	} {
		wantAdd(t, x.l, 4, x.from, 1, told(x.l, api.ErrFull))
	}
}

// Where two errors could be told, the one that the chapter names first is.
func TestP11_2AddFirstError(t *testing.T) {
	full := of(0, 1, 0, 1, 1, 0, 2, 1, 0)
	for _, x := range []struct {
		some
		from, n int
		want    api.Errno
	}{
		// ErrArg goes ahead of ErrThere, and of ErrFull.
		{some{of(1, 2, 0), 4}, 1, 4, api.ErrArg},
		{some{of(1, 2, 0), 4}, 2, 3, api.ErrArg},
		{some{of(1, 2, 0), 3}, 2, 2, api.ErrArg},
		{some{of(0, 2, 0), 4}, -1, 2, api.ErrArg},
		{some{of(0, 2, 0), 4}, 0, 0, api.ErrArg},
		{some{of(0, 2, 0), 1}, 0, 1, api.ErrArg},
		{some{of(0, 2, 0), 5}, 0, 1, api.ErrArg},
		{some{full, 4}, 3, 2, api.ErrArg},
		{some{full, 4}, 3, 0, api.ErrArg},
		{some{full, 4}, 2, 3, api.ErrArg},
		{some{full, 3}, 3, 1, api.ErrArg},
		{some{full, 2}, 3, 1, api.ErrArg},
		{some{of(0, 1, 0, 1, 1, 0, 2, 1, 0, 3, 1, 0), 4}, 0, 1, api.ErrArg},
		{some{of(0, 1, 0, 0, 1, 0), 4}, 0, 1, api.ErrArg},
		// ErrThere goes ahead of ErrFull.
		{some{full, 4}, 0, 1, api.ErrThere},
		{some{full, 4}, 2, 2, api.ErrThere},
		{some{full, 4}, 0, 4, api.ErrThere},
		{some{full, 3}, 2, 1, api.ErrThere},
		{some{full, 4}, 3, 1, api.ErrFull},
	} {
		wantAdd(t, x.l, x.out, x.from, x.n, told(x.l, x.want))
	}
}

func TestP11_2AddAll(t *testing.T) {
	for _, x := range goods() {
		for from := -2; from <= 6; from++ {
			for n := -2; n <= 6; n++ {
				wantAdd(t, x.l, x.out, from, n, told(otherAdd(x.l, x.out, from, n)))
			}
		}
	}
}

func TestP11_2DrainKnown(t *testing.T) {
	l := of(1, 2, 0, 0, 1, 1, 3, 1, 0)
	wantDrain(t, l, 4, 0, told(of(1, 2, 1, 0, 1, 1, 3, 1, 0), api.OK))
	wantDrain(t, l, 4, 1, told(l, api.ErrThere))
	wantDrain(t, l, 4, 2, told(of(1, 2, 0, 0, 1, 1, 3, 1, 1), api.OK))
	wantDrain(t, l, 4, 3, told(l, api.ErrNone))
	wantDrain(t, of(0, 1, 0), 1, 0, told(of(0, 1, 1), api.OK))
	wantDrain(t, of(0, 1, 1), 1, 0, told(of(0, 1, 1), api.ErrThere))
	wantDrain(t, nil, 4, 0, told(nil, api.ErrNone))
	wantDrain(t, nil, 0, 0, told(nil, api.ErrNone))
	wantDrain(t, nil, 5, 0, told(nil, api.ErrArg))
}

func TestP11_2DrainErrNone(t *testing.T) {
	for _, x := range goods() {
		for _, k := range []int{-1, -2, math.MinInt, math.MinInt + 1, -1 << 32, len(x.l), len(x.l) + 1, 3, 4, 1 << 32, math.MaxInt - 1, math.MaxInt} {
			wantDrain(t, x.l, x.out, k, told(x.l, api.ErrNone))
		}
	}
}

func TestP11_2DrainAll(t *testing.T) {
	for _, x := range goods() {
		for _, k := range edges() {
			wantDrain(t, x.l, x.out, k, told(otherDrain(x.l, x.out, k)))
		}
	}
}

func TestP11_2SizeKnown(t *testing.T) {
	l := of(1, 2, 1, 0, 1, 0)
	for _, x := range []struct {
		k, n int
		busy []int
		want answer
	}{
		// To more, to fewer, to as many as there are.
		{0, 3, nil, told(of(1, 3, 1, 0, 1, 0), api.OK)},
		{0, 1, nil, told(of(1, 1, 1, 0, 1, 0), api.OK)},
		{0, 2, nil, told(l, api.OK)},
		{1, 1, nil, told(l, api.OK)},
		// Busy are places that go, that stay, of another pool, of none.
		{0, 1, []int{2}, told(l, api.ErrBusy)},
		{0, 1, []int{2, 2}, told(l, api.ErrBusy)},
		{0, 1, []int{0, 1, 3, 2}, told(l, api.ErrBusy)},
		{0, 1, []int{9, 2, -1}, told(l, api.ErrBusy)},
		{0, 1, []int{1}, told(of(1, 1, 1, 0, 1, 0), api.OK)},
		{0, 1, []int{1, 1}, told(of(1, 1, 1, 0, 1, 0), api.OK)},
		{0, 1, []int{0, 1, 3}, told(of(1, 1, 1, 0, 1, 0), api.OK)},
		{0, 1, []int{-1, 4, math.MinInt, math.MaxInt, 1<<32 + 2}, told(of(1, 1, 1, 0, 1, 0), api.OK)},
		{0, 2, []int{0, 1, 2, 3}, told(l, api.OK)},
		{0, 3, []int{0, 1, 2, 3}, told(of(1, 3, 1, 0, 1, 0), api.OK)},
		{1, 1, []int{0, 1, 2, 3}, told(l, api.OK)},
		// No such pool; no such addresses; another pool's.
		{2, 1, nil, told(l, api.ErrNone)},
		{-1, 1, nil, told(l, api.ErrNone)},
		{0, 0, nil, told(l, api.ErrArg)},
		{0, 4, nil, told(l, api.ErrArg)},
		{1, 5, nil, told(l, api.ErrArg)},
		{1, 2, nil, told(l, api.ErrThere)},
		{1, 4, nil, told(l, api.ErrThere)},
	} {
		wantSize(t, l, 4, x.k, x.n, x.busy, x.want)
	}
	wantSize(t, of(0, 4, 0), 4, 0, 1, []int{0, 4}, told(of(0, 1, 0), api.OK))
	wantSize(t, of(0, 4, 0), 4, 0, 1, []int{0, 3}, told(of(0, 4, 0), api.ErrBusy))
	wantSize(t, of(0, 4, 0), 4, 0, 3, []int{3}, told(of(0, 4, 0), api.ErrBusy))
	wantSize(t, of(0, 1, 0, 1, 1, 0, 2, 1, 1), 4, 2, 2, []int{2, 3}, told(of(0, 1, 0, 1, 1, 0, 2, 2, 1), api.OK))
}

func TestP11_2SizeErrNone(t *testing.T) {
	for _, x := range goods() {
		for _, k := range []int{-1, -2, math.MinInt, -1 << 32, len(x.l), len(x.l) + 1, 3, 4, 1 << 32, math.MaxInt} {
			for _, n := range []int{1, 0, -1, 4, 5, math.MinInt, math.MaxInt} {
				wantSize(t, x.l, x.out, k, n, []int{0, 1, 2, 3}, told(x.l, api.ErrNone))
			}
		}
	}
}

func TestP11_2SizeErrArg(t *testing.T) {
	for _, x := range goods() {
		for k, p := range x.l {
			for _, n := range []int{0, -1, -4, math.MinInt, math.MinInt + 1, -1 << 32, x.out - p.From + 1, x.out + 1, 5, 1 << 32, 1<<32 + 1, math.MaxInt - 4, math.MaxInt - p.From, math.MaxInt} {
				wantSize(t, x.l, x.out, k, n, nil, told(x.l, api.ErrArg))
				wantSize(t, x.l, x.out, k, n, []int{0, 1, 2, 3}, told(x.l, api.ErrArg))
			}
		}
	}
}

// Where two errors could be told, the one that the chapter names first is.
func TestP11_2SizeFirstError(t *testing.T) {
	l := of(0, 2, 0, 2, 1, 1)
	for _, x := range []struct {
		some
		k, n int
		busy []int
		want api.Errno
	}{
		// That they may not be goes ahead of all.
		{some{l, 5}, 2, 1, nil, api.ErrArg},
		{some{l, 2}, 9, 0, nil, api.ErrArg},
		{some{of(0, 2, 0, 1, 1, 0), 4}, 2, 1, nil, api.ErrArg},
		{some{of(0, 2, 0, 1, 1, 0), 4}, 0, 2, nil, api.ErrArg},
		{some{of(0, 2, 0, 1, 1, 0), 4}, 0, 1, []int{1}, api.ErrArg},
		// ErrNone goes ahead of ErrArg.
		{some{l, 4}, 2, 0, nil, api.ErrNone},
		{some{l, 4}, -1, 5, []int{0}, api.ErrNone},
		// ErrArg goes ahead of ErrThere, and of ErrBusy.
		{some{l, 4}, 0, 5, nil, api.ErrArg},
		{some{l, 3}, 0, 4, nil, api.ErrArg},
		{some{l, 4}, 0, math.MaxInt, nil, api.ErrArg},
		{some{l, 4}, 0, 0, []int{0, 1}, api.ErrArg},
		{some{l, 4}, 0, -1, []int{0, 1}, api.ErrArg},
		// ErrThere and ErrBusy can't both be: the one is told of more addresses, the other of fewer.
		{some{l, 4}, 0, 3, []int{0, 1, 2, 3}, api.ErrThere},
		{some{l, 4}, 0, 4, []int{0, 1, 2, 3}, api.ErrThere},
		{some{l, 4}, 0, 1, []int{0, 1, 2, 3}, api.ErrBusy},
	} {
		wantSize(t, x.l, x.out, x.k, x.n, x.busy, told(x.l, x.want))
	}
}

func TestP11_2SizeAll(t *testing.T) {
	lists := busies()
	for _, x := range goods() {
		for k := -1; k <= 3; k++ {
			for n := -1; n <= 6; n++ {
				for _, busy := range lists {
					wantSize(t, x.l, x.out, k, n, busy, told(otherSize(x.l, x.out, k, n, busy)))
				}
			}
		}
	}
}

func TestP11_2GoneKnown(t *testing.T) {
	l := of(1, 2, 1, 0, 1, 0, 3, 1, 1)
	for _, x := range []struct {
		k    int
		busy []int
		want answer
	}{
		// The first one, and the last one; busy are places of others, or of none.
		{0, nil, told(of(0, 1, 0, 3, 1, 1), api.OK)},
		{0, []int{}, told(of(0, 1, 0, 3, 1, 1), api.OK)},
		{0, []int{0, 3, 4, -1}, told(of(0, 1, 0, 3, 1, 1), api.OK)},
		{2, []int{0, 1, 2, 4, math.MinInt, math.MaxInt, 1<<32 + 3}, told(of(1, 2, 1, 0, 1, 0), api.OK)},
		// One that drains, whose addresses are busy.
		{0, []int{1}, told(l, api.ErrBusy)},
		{0, []int{2}, told(l, api.ErrBusy)},
		{0, []int{2, 2, 1}, told(l, api.ErrBusy)},
		{0, []int{0, 3, 2}, told(l, api.ErrBusy)},
		{2, []int{3}, told(l, api.ErrBusy)},
		{2, []int{9, 3}, told(l, api.ErrBusy)},
		// One that is Active, whether its addresses are busy or not.
		{1, nil, told(l, api.ErrBusy)},
		{1, []int{0}, told(l, api.ErrBusy)},
		{1, []int{3}, told(l, api.ErrBusy)},
		// None.
		{3, nil, told(l, api.ErrNone)},
		{-1, nil, told(l, api.ErrNone)},
		{3, []int{0, 1, 2, 3}, told(l, api.ErrNone)},
	} {
		wantGone(t, l, 4, x.k, x.busy, x.want)
	}
	// The only one, and the middle one.
	wantGone(t, of(0, 4, 1), 4, 0, []int{4, -1}, told(nil, api.OK))
	wantGone(t, of(0, 4, 1), 4, 0, []int{3}, told(of(0, 4, 1), api.ErrBusy))
	wantGone(t, of(0, 1, 0), 1, 0, nil, told(of(0, 1, 0), api.ErrBusy))
	wantGone(t, of(0, 1, 0, 1, 1, 1, 2, 1, 0), 3, 1, []int{0, 2}, told(of(0, 1, 0, 2, 1, 0), api.OK))
	wantGone(t, nil, 4, 0, nil, told(nil, api.ErrNone))
}

// Where two errors could be told, the one that the chapter names first is.
func TestP11_2GoneFirstError(t *testing.T) {
	l := of(0, 2, 0, 2, 1, 1)
	for _, x := range []struct {
		some
		k    int
		busy []int
		want api.Errno
	}{
		{some{l, 5}, 2, nil, api.ErrArg},
		{some{l, 2}, -1, nil, api.ErrArg},
		{some{l, 2}, 0, nil, api.ErrArg},
		{some{l, 2}, 1, []int{2}, api.ErrArg},
		{some{l, 2}, 1, nil, api.ErrArg},
		{some{l, 4}, 2, []int{0, 1, 2}, api.ErrNone},
		{some{l, 4}, math.MinInt, []int{0, 1, 2}, api.ErrNone},
		{some{l, 4}, 0, nil, api.ErrBusy},
		{some{l, 4}, 1, []int{2}, api.ErrBusy},
	} {
		wantGone(t, x.l, x.out, x.k, x.busy, told(x.l, x.want))
	}
}

func TestP11_2GoneAll(t *testing.T) {
	lists := busies()
	for _, x := range goods() {
		for _, busy := range lists {
			for _, k := range edges() {
				wantGone(t, x.l, x.out, k, busy, told(otherGone(x.l, x.out, k, busy)))
			}
		}
	}
}

// Of pools that may not be all four tell ErrArg, whatever else they are told, and answer the same pools.
func TestP11_2WhatMayNotBe(t *testing.T) {
	for _, x := range bads() {
		for _, n := range edges() {
			want := told(x.l, api.ErrArg)
			wantDrain(t, x.l, x.out, n, want)
			wantGone(t, x.l, x.out, n, nil, want)
			wantGone(t, x.l, x.out, n, []int{0, 1, 2, 3, 4}, want)
			for _, m := range edges() {
				wantAdd(t, x.l, x.out, n, m, want)
				wantSize(t, x.l, x.out, n, m, nil, want)
				wantSize(t, x.l, x.out, n, m, []int{0, 1, 2, 3, 4}, want)
			}
		}
	}
}

// What may be stays so, whatever it is asked; with an error the pools are as they were.
func TestP11_3StaysSo(t *testing.T) {
	for _, x := range few() {
		for _, n := range edges() {
			wantStays(t, x, told(pool.Drain(x.l, x.out, n)))
			for _, busy := range [][]int{nil, {0, 2}, {3, 1}} {
				wantStays(t, x, told(pool.Gone(x.l, x.out, n, busy)))
				for _, m := range edges() {
					wantStays(t, x, told(pool.Size(x.l, x.out, n, m, busy)))
					wantStays(t, x, told(pool.Add(x.l, x.out, n, m)))
				}
			}
		}
	}
}

// wantStays asks that pools that come of others may be, are the same with an error, and drain where those drained that are there still.
func wantStays(t *testing.T, x some, got answer) {
	t.Helper()
	if !otherMay(got.l, x.out) || !pool.May(got.l, x.out) || got.e != api.OK && !slices.Equal(got.l, x.l) {
		t.Fatalf("of %v came %v", x, got)
	}
	for _, p := range x.l {
		k := otherOf(got.l, p.From)
		if p.St == 1 && k >= 0 && got.l[k].St != 1 {
			t.Fatalf("of %v came %v: one that drained is Active", x, got)
		}
	}
}

// Calls one behind the other, by chance, answer what the document's words tell; what drains does so till it is gone.
func TestP11_3Calls(t *testing.T) {
	chance := rand.New(rand.NewSource(1))
	for range 300 {
		x := some{nil, chance.Intn(5)}
		for range 100 {
			var got, want answer
			k, n := chance.Intn(5)-1, chance.Intn(6)
			busy := chance.Perm(6)[:chance.Intn(4)]
			switch chance.Intn(5) {
			case 0:
				got, want = told(pool.Drain(x.l, x.out, k)), told(otherDrain(x.l, x.out, k))
			case 1:
				got, want = told(pool.Size(x.l, x.out, k, n, busy)), told(otherSize(x.l, x.out, k, n, busy))
			case 2:
				got, want = told(pool.Gone(x.l, x.out, k, busy)), told(otherGone(x.l, x.out, k, busy))
			default:
				got, want = told(pool.Add(x.l, x.out, k, n)), told(otherAdd(x.l, x.out, k, n))
			}
			if !got.isSame(want) {
				t.Fatalf("of %v, asked with %d, %d, %v: %v, not %v", x, k, n, busy, got, want)
			}
			wantStays(t, x, got)
			x.l = got.l
		}
	}
}

// A pool that drains goes on to, however it is sized, and whatever is done to others; then it can go.
func TestP11_3DrainsTillItIsGone(t *testing.T) {
	l, _ := pool.Add(nil, 4, 1, 2)
	l, _ = pool.Drain(l, 4, 0)
	l, _ = pool.Size(l, 4, 0, 3, []int{1})
	l, _ = pool.Add(l, 4, 0, 1)
	l, _ = pool.Size(l, 4, 0, 1, []int{1})
	l, _ = pool.Drain(l, 4, 1)
	wantSame(t, l, of(1, 1, 1, 0, 1, 1), true)
	wantAdd(t, l, 4, 1, 1, told(l, api.ErrThere))
	wantGone(t, l, 4, 0, []int{1}, told(l, api.ErrBusy))
	l, _ = pool.Gone(l, 4, 0, []int{0})
	wantSame(t, l, of(0, 1, 1), true)
	// Its address may be another pool's then, which is Active.
	wantAdd(t, l, 4, 1, 1, told(of(0, 1, 1, 1, 1, 0), api.OK))
}

// roomyPools are pools with room behind them, and the whole of that memory.
func roomyPools(l []api.Pool) (pools, all []api.Pool) {
	all = make([]api.Pool, len(l)+5)
	for i := range all {
		all[i] = api.Pool{From: -7, N: -7, St: -7}
	}
	copy(all, l)
	return all[:len(l)], all
}

// roomyPlaces are places with room behind them, and the whole of that memory.
func roomyPlaces(l []int) (places, all []int) {
	all = make([]int, len(l)+5)
	for i := range all {
		all[i] = -7
	}
	copy(all, l)
	return all[:len(l)], all
}

// spoil overwrites pools, and the room behind them.
func spoil(l []api.Pool) {
	l = l[:cap(l)]
	for i := range l {
		l[i] = api.Pool{From: -9, N: -9, St: -9}
	}
}

// answers are all lists that the four calls answer.
func answers(l []api.Pool, out, k, n int, busy []int) [][]api.Pool {
	added, _ := pool.Add(l, out, k, n)
	drained, _ := pool.Drain(l, out, k)
	sized, _ := pool.Size(l, out, k, n, busy)
	gone, _ := pool.Gone(l, out, k, busy)
	return [][]api.Pool{added, drained, sized, gone}
}

// all are pools that may be, and pools that may not.
func all() []some {
	l := few()
	for _, x := range bads() {
		l = append(l, x.some)
	}
	return l
}

// Calls change nothing of what is handed in, nor of what stands behind it.
func TestR3HandedInStays(t *testing.T) {
	for _, x := range all() {
		for k := -1; k <= 3; k++ {
			for n := 0; n <= 4; n++ {
				l, pools := roomyPools(x.l)
				busy, places := roomyPlaces([]int{3, 1, 3})
				wasPools, wasPlaces := slices.Clone(pools), slices.Clone(places)
				pool.May(l, x.out)
				pool.Same(l, l)
				pool.Of(l, k)
				pool.Gives(l, k)
				for _, a := range answers(l, x.out, k, n, busy) {
					spoil(a)
					_ = append(a, api.Pool{From: -8})
				}
				if !slices.Equal(pools, wasPools) || !slices.Equal(places, wasPlaces) {
					t.Fatalf("%v, asked with %d, %d: %v, %v", x, k, n, pools, places)
				}
			}
		}
	}
}

// What is answered is the caller's own: changes to what was handed in, or to another answer, change nothing of it.
func TestR3AnswersAreTheCallersOwn(t *testing.T) {
	for _, x := range all() {
		for k := -1; k <= 3; k++ {
			for n := 0; n <= 4; n++ {
				want := answers(x.l, x.out, k, n, []int{3, 1})
				for i := range want {
					l, pools := roomyPools(x.l)
					got := answers(l, x.out, k, n, []int{3, 1})
					spoil(pools)
					for j, a := range got {
						if j != i {
							spoil(a)
						}
					}
					if !slices.Equal(got[i], want[i]) {
						t.Fatalf("%v, asked with %d, %d: answer %d: %v, not %v", x, k, n, i, got[i], want[i])
					}
				}
			}
		}
	}
}

// No call hangs on the ones ahead.
func TestR5NothingIsKept(t *testing.T) {
	l := of(1, 2, 0, 0, 1, 1)
	for range 3 {
		wantDrain(t, l, 5, 0, told(l, api.ErrArg))
		wantDrain(t, l, 4, 0, told(of(1, 2, 1, 0, 1, 1), api.OK))
		wantGone(t, l, 4, 0, nil, told(l, api.ErrBusy))
		wantGone(t, l, 4, 1, nil, told(of(1, 2, 0), api.OK))
		wantSize(t, l, 4, 0, 1, []int{2}, told(l, api.ErrBusy))
		wantSize(t, l, 4, 0, 3, []int{2}, told(of(1, 3, 0, 0, 1, 1), api.OK))
		wantAdd(t, l, 4, 3, 1, told(of(1, 2, 0, 0, 1, 1, 3, 1, 0), api.OK))
		wantOf(t, l, 2, 0)
	}
}

// Whatever numbers calls are made with, they end, and answer by the document's words.
func TestP1AnyNumbers(t *testing.T) {
	for _, n := range edges() {
		for _, m := range edges() {
			for _, l := range [][]api.Pool{nil, of(1, 2, 1), of(0, 1, 0, 2, 2, 1), of(n, m, 0), of(n, 1, m), of(1, n, m), of(m, m, m, n, n, n), of(0, 1, 0, n, m, 1)} {
				busy := []int{n, m, n}
				for _, out := range []int{0, 3, 4, n} {
					wantMay(t, l, out, otherMay(l, out))
					wantAdd(t, l, out, n, m, told(otherAdd(l, out, n, m)))
					wantDrain(t, l, out, n, told(otherDrain(l, out, n)))
					wantGone(t, l, out, n, busy, told(otherGone(l, out, n, busy)))
					wantSize(t, l, out, n, m, busy, told(otherSize(l, out, n, m, busy)))
					wantSize(t, l, out, 0, m, busy, told(otherSize(l, out, 0, m, busy)))
				}
				wantOf(t, l, n, otherOf(l, n))
			}
		}
	}
}

// The document's example: of 4 addresses a pool of 2 from 1 on has 1 and 2.
func TestExample(t *testing.T) {
	l, _ := pool.Add(nil, 4, 1, 2)
	for at, want := range []int{-1, 0, 0, -1} {
		wantOf(t, l, at, want)
	}
}
