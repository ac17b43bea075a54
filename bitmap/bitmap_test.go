package bitmap_test

import (
	"math"
	"math/rand"
	"slices"
	"strconv"
	"strings"
	"testing"

	"moorings/api"
	"moorings/bitmap"
)

// known are maps, and which of their blocks are used, and which are not, worked out by hand from the document's words.
func known() []struct {
	u          api.Used
	used, free []int
} {
	return []struct {
		u          api.Used
		used, free []int
	}{
		{api.Used{N: 0, U: 0}, nil, nil},
		{api.Used{N: 1, U: 0}, nil, []int{0}},
		{api.Used{N: 1, U: 1}, []int{0}, nil},
		{api.Used{N: 2, U: 1}, []int{0}, []int{1}},
		{api.Used{N: 2, U: 2}, []int{1}, []int{0}},
		{api.Used{N: 2, U: 3}, []int{0, 1}, nil},
		{api.Used{N: 3, U: 0}, nil, []int{0, 1, 2}},
		{api.Used{N: 3, U: 1}, []int{0}, []int{1, 2}},
		{api.Used{N: 3, U: 4}, []int{2}, []int{0, 1}},
		{api.Used{N: 3, U: 5}, []int{0, 2}, []int{1}},
		{api.Used{N: 3, U: 7}, []int{0, 1, 2}, nil},
		{api.Used{N: 5, U: 7}, []int{0, 1, 2}, []int{3, 4}},
		{api.Used{N: 5, U: 15}, []int{0, 1, 2, 3}, []int{4}},
		{api.Used{N: 7, U: 64}, []int{6}, []int{0, 1, 2, 3, 4, 5}},
		{api.Used{N: 8, U: 0}, nil, []int{0, 1, 2, 3, 4, 5, 6, 7}},
		{api.Used{N: 8, U: 1}, []int{0}, []int{1, 2, 3, 4, 5, 6, 7}},
		{api.Used{N: 8, U: 127}, []int{0, 1, 2, 3, 4, 5, 6}, []int{7}},
		{api.Used{N: 8, U: 128}, []int{7}, []int{0, 1, 2, 3, 4, 5, 6}},
		{api.Used{N: 8, U: 170}, []int{1, 3, 5, 7}, []int{0, 2, 4, 6}},
		{api.Used{N: 8, U: 254}, []int{1, 2, 3, 4, 5, 6, 7}, []int{0}},
		{api.Used{N: 8, U: 255}, []int{0, 1, 2, 3, 4, 5, 6, 7}, nil},
	}
}

// bads are maps that may not be.
func bads() []api.Used {
	l := []api.Used{{N: 0, U: 1}, {N: 9, U: 511}, {N: 9, U: 512}, {N: 10, U: 1023}}
	for _, n := range notMany() {
		for _, u := range []int{math.MinInt, -1, 0, 1, 255, math.MaxInt} {
			l = append(l, api.Used{N: n, U: u})
		}
	}
	top := 1
	for n := range 9 {
		for _, u := range []int{top, top + 1, 2*top - 1, 2 * top, 3 * top, -1, -2, -top, -256, math.MinInt, math.MinInt + 1, 256, 257, 1 << 32, 1 << 62, math.MaxInt} {
			l = append(l, api.Used{N: n, U: u})
		}
		top *= 2
	}
	return l
}

// notMany are below 0, or above 8.
func notMany() []int {
	return []int{-1, -2, -8, -9, -63, -64, -1 << 32, math.MinInt, math.MinInt + 1, 9, 10, 16, 62, 63, 64, 65, 256, 1 << 32, math.MaxInt - 1, math.MaxInt}
}

// all are all maps that may be.
func all() []api.Used {
	var l []api.Used
	top := 1
	for n := range 9 {
		for u := range top {
			l = append(l, api.Used{N: n, U: u})
		}
		top *= 2
	}
	return l
}

// notBlocks are no blocks of a map that may be, near its ends and far from them.
func notBlocks(u api.Used) []int {
	return append(notMany(), u.N, u.N+1, u.N+8, u.N+32, u.N+56, u.N+64, u.N+256, 8)
}

// split tells which blocks are used, and which are not, by the digits of U to the base of 2.
func split(u api.Used) (used, free []int) {
	digits := strings.Repeat("0", 8) + strconv.FormatInt(int64(u.U), 2)
	for i := range u.N {
		if digits[len(digits)-1-i] == '1' {
			used = append(used, i)
		} else {
			free = append(free, i)
		}
	}
	return used, free
}

// join is the map of n blocks of which just some are used.
func join(n int, used []int) api.Used {
	u := api.Used{N: n}
	for _, i := range used {
		u.U += int(math.Pow(2, float64(i)))
	}
	return u
}

// least is the first of a rising list; -1 if it is empty.
func least(l []int) int {
	if len(l) == 0 {
		return -1
	}
	return l[0]
}

func wantMay(t *testing.T, u api.Used, want bool) {
	t.Helper()
	if bitmap.May(u) != want {
		t.Errorf("May(%v): not %t", u, want)
	}
}

func wantHas(t *testing.T, u api.Used, i int, want bool) {
	t.Helper()
	if bitmap.Has(u, i) != want {
		t.Errorf("Has(%v, %d): not %t", u, i, want)
	}
}

func wantTaken(t *testing.T, u api.Used, i int, want api.Used) {
	t.Helper()
	if v, is := bitmap.Take(u, i); !is || v != want {
		t.Errorf("Take(%v, %d): %v, %t, not %v", u, i, v, is, want)
	}
}

func wantNotTaken(t *testing.T, u api.Used, i int) {
	t.Helper()
	if v, is := bitmap.Take(u, i); is || v != u {
		t.Errorf("Take(%v, %d): %v, %t", u, i, v, is)
	}
}

func wantGiven(t *testing.T, u api.Used, i int, want api.Used) {
	t.Helper()
	if v, is := bitmap.Give(u, i); !is || v != want {
		t.Errorf("Give(%v, %d): %v, %t, not %v", u, i, v, is, want)
	}
}

func wantNotGiven(t *testing.T, u api.Used, i int) {
	t.Helper()
	if v, is := bitmap.Give(u, i); is || v != u {
		t.Errorf("Give(%v, %d): %v, %t", u, i, v, is)
	}
}

// wantTold asks what is told of a map as a whole.
func wantTold(t *testing.T, u api.Used, first int, free []int, count int) {
	t.Helper()
	if got := bitmap.First(u); got != first {
		t.Errorf("First(%v): %d, not %d", u, got, first)
	}
	if got := bitmap.Free(u); !slices.Equal(got, free) {
		t.Errorf("Free(%v): %v, not %v", u, got, free)
	}
	if got := bitmap.Count(u); got != count {
		t.Errorf("Count(%v): %d, not %d", u, got, count)
	}
}

func TestP9_1New(t *testing.T) {
	for n := range 9 {
		u, is := bitmap.New(n)
		if !is || u != (api.Used{N: n}) {
			t.Errorf("New(%d): %v, %t", n, u, is)
		}
		wantMay(t, u, true)
		_, free := split(u)
		if len(free) != n {
			t.Errorf("New(%d): %d are free", n, len(free))
		}
		for i := range n {
			wantHas(t, u, i, false)
		}
		wantTold(t, u, least(free), free, 0)
	}
}

func TestP9_1NewOfNone(t *testing.T) {
	for _, n := range notMany() {
		if u, is := bitmap.New(n); is || u != (api.Used{}) {
			t.Errorf("New(%d): %v, %t", n, u, is)
		}
	}
}

func TestP9_1May(t *testing.T) {
	for _, x := range known() {
		wantMay(t, x.u, true)
	}
	for _, u := range bads() {
		wantMay(t, u, false)
	}
	// Around all that may be.
	may := map[api.Used]bool{}
	for _, u := range all() {
		may[u] = true
	}
	for n := -70; n <= 70; n++ {
		for u := -600; u <= 600; u++ {
			wantMay(t, api.Used{N: n, U: u}, may[api.Used{N: n, U: u}])
		}
	}
}

func TestP9_1Has(t *testing.T) {
	for _, x := range known() {
		for _, i := range x.used {
			wantHas(t, x.u, i, true)
		}
		for _, i := range x.free {
			wantHas(t, x.u, i, false)
		}
	}
}

func TestP9_1HasOfNoBlock(t *testing.T) {
	for _, u := range all() {
		for _, i := range notBlocks(u) {
			wantHas(t, u, i, false)
		}
	}
}

func TestP9_1HasOfNoMap(t *testing.T) {
	for _, u := range bads() {
		for i := -70; i <= 70; i++ {
			wantHas(t, u, i, false)
		}
		for _, i := range notMany() {
			wantHas(t, u, i, false)
		}
	}
}

func TestP9_2Known(t *testing.T) {
	for _, x := range []struct {
		free api.Used
		i    int
		used api.Used
	}{
		{api.Used{N: 1, U: 0}, 0, api.Used{N: 1, U: 1}},
		{api.Used{N: 2, U: 1}, 1, api.Used{N: 2, U: 3}},
		{api.Used{N: 3, U: 0}, 1, api.Used{N: 3, U: 2}},
		{api.Used{N: 3, U: 1}, 2, api.Used{N: 3, U: 5}},
		{api.Used{N: 3, U: 6}, 0, api.Used{N: 3, U: 7}},
		{api.Used{N: 7, U: 63}, 6, api.Used{N: 7, U: 127}},
		{api.Used{N: 8, U: 0}, 0, api.Used{N: 8, U: 1}},
		{api.Used{N: 8, U: 0}, 7, api.Used{N: 8, U: 128}},
		{api.Used{N: 8, U: 127}, 7, api.Used{N: 8, U: 255}},
		{api.Used{N: 8, U: 254}, 0, api.Used{N: 8, U: 255}},
		{api.Used{N: 8, U: 170}, 4, api.Used{N: 8, U: 186}},
	} {
		wantTaken(t, x.free, x.i, x.used)
		wantGiven(t, x.used, x.i, x.free)
		wantNotTaken(t, x.used, x.i)
		wantNotGiven(t, x.free, x.i)
	}
}

// Of every map that may be, every block can either be taken or be given, and no other one changes.
func TestP9_2All(t *testing.T) {
	for _, u := range all() {
		used, free := split(u)
		for _, i := range free {
			wantTaken(t, u, i, join(u.N, append([]int{i}, used...)))
			wantNotGiven(t, u, i)
		}
		for _, i := range used {
			left := slices.DeleteFunc(slices.Clone(used), func(j int) bool { return j == i })
			wantGiven(t, u, i, join(u.N, left))
			wantNotTaken(t, u, i)
		}
	}
}

func TestP9_2OfNoBlock(t *testing.T) {
	for _, u := range all() {
		for _, i := range notBlocks(u) {
			wantNotTaken(t, u, i)
			wantNotGiven(t, u, i)
		}
	}
}

func TestP9_2OfNoMap(t *testing.T) {
	for _, u := range bads() {
		for i := -70; i <= 70; i++ {
			wantNotTaken(t, u, i)
			wantNotGiven(t, u, i)
		}
		for _, i := range notMany() {
			wantNotTaken(t, u, i)
			wantNotGiven(t, u, i)
		}
	}
}

func TestP9_3Known(t *testing.T) {
	for _, x := range known() {
		wantTold(t, x.u, least(x.free), x.free, len(x.used))
	}
}

func TestP9_3All(t *testing.T) {
	for _, u := range all() {
		used, free := split(u)
		wantTold(t, u, least(free), free, len(used))
	}
}

func TestP9_3OfNoMap(t *testing.T) {
	for _, u := range bads() {
		wantTold(t, u, -1, nil, 0)
	}
}

// What is taken, and given, is as it was; what is given, and taken, too.
func TestP9_4ThereAndBack(t *testing.T) {
	for _, u := range all() {
		for i := range u.N {
			if v, is := bitmap.Take(u, i); is {
				wantMay(t, v, true)
				wantHas(t, v, i, true)
				wantGiven(t, v, i, u)
			}
			if v, is := bitmap.Give(u, i); is {
				wantMay(t, v, true)
				wantHas(t, v, i, false)
				wantTaken(t, v, i, u)
			}
		}
	}
}

// Of every block of every map just one is so: Free tells it, or Has.
func TestP9_4FreeAndUsedAreAll(t *testing.T) {
	for _, u := range all() {
		free := bitmap.Free(u)
		used := 0
		for i := range u.N {
			has := bitmap.Has(u, i)
			if has == slices.Contains(free, i) {
				t.Errorf("%v: block %d: Has %t, Free %v", u, i, has, free)
			}
			if has {
				used++
			}
		}
		if used != bitmap.Count(u) || used+len(free) != u.N {
			t.Errorf("%v: %d are used, Count %d, Free %v", u, used, bitmap.Count(u), free)
		}
		if first := bitmap.First(u); first != least(free) {
			t.Errorf("%v: First %d, Free %v", u, first, free)
		}
	}
}

// Taken one by one, in any order, and given back in any other one, all maps on the way are as told by which were taken.
func TestP9_4InAnyOrder(t *testing.T) {
	chance := rand.New(rand.NewSource(1))
	for range 300 {
		n := chance.Intn(9)
		u, _ := bitmap.New(n)
		var used []int
		for _, i := range chance.Perm(n) {
			used = append(used, i)
			wantTaken(t, u, i, join(n, used))
			u, _ = bitmap.Take(u, i)
		}
		wantTold(t, u, -1, nil, n)
		for _, i := range chance.Perm(n) {
			used = slices.DeleteFunc(used, func(j int) bool { return j == i })
			wantGiven(t, u, i, join(n, used))
			u, _ = bitmap.Give(u, i)
		}
		if u != (api.Used{N: n}) {
			t.Errorf("all %d given: %v", n, u)
		}
	}
}

// The first that is free, taken till there is none, are all, rising; then none is left.
func TestP9_4TakenFromTheFirst(t *testing.T) {
	for _, u := range all() {
		_, free := split(u)
		v := u
		var taken []int
		for range 9 {
			i := bitmap.First(v)
			w, is := bitmap.Take(v, i)
			if !is {
				break
			}
			v = w
			taken = append(taken, i)
		}
		if !slices.Equal(taken, free) {
			t.Errorf("%v: taken %v, not %v", u, taken, free)
		}
		wantTold(t, v, -1, nil, u.N)
	}
}

// What Free answers is the caller's own: changed, and made longer, it changes nothing of what is told later.
func TestR3FreeIsTheCallersOwn(t *testing.T) {
	for _, x := range known() {
		one, two := bitmap.Free(x.u), bitmap.Free(x.u)
		for i := range one {
			one[i] = 99
		}
		_ = append(one, 99, 99)
		if !slices.Equal(two, x.free) {
			t.Errorf("Free(%v): %v, when another one was changed", x.u, two)
		}
		wantTold(t, x.u, least(x.free), x.free, len(x.used))
	}
}

// The document's example: of three blocks the first is used.
func TestExample(t *testing.T) {
	u, _ := bitmap.New(3)
	u, _ = bitmap.Take(u, 0)
	wantTold(t, u, 1, []int{1, 2}, 1)
}
