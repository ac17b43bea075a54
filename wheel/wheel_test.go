package wheel_test

import (
	"math"
	"math/rand"
	"slices"
	"testing"

	"moorings/api"
	"moorings/wheel"
)

// top is the greatest tick.
const top = 1 << 30

// at is a wheel of a tick, and of timers told by pairs: Id, At, Id, At ...
func at(now int, pairs ...int) api.Wheel {
	return api.Wheel{Now: now, T: list(pairs...)}
}

// list are timers told by pairs: Id, At, Id, At ...
func list(pairs ...int) []api.Timer {
	var l []api.Timer
	for i := 0; i+1 < len(pairs); i += 2 {
		l = append(l, api.Timer{Id: pairs[i], At: pairs[i+1]})
	}
	return l
}

// many is a wheel of Now 0 and of n timers: number i at 10 and i, together.
func many(n int) api.Wheel {
	var w api.Wheel
	for i := range n {
		w.T = append(w.T, api.Timer{Id: i, At: 10 + i})
	}
	return w
}

// crowd is a wheel of Now 0 and of n timers that are all due at one tick.
func crowd(n, tick int) api.Wheel {
	var w api.Wheel
	for i := range n {
		w.T = append(w.T, api.Timer{Id: i, At: tick})
	}
	return w
}

// goods are wheels that may be, most of them at an edge.
func goods() []api.Wheel {
	return []api.Wheel{
		at(0), at(1), at(top - 1), at(top), at(12345),
		{Now: 7, T: []api.Timer{}},
		at(0, 0, 1), at(0, 0, top), at(0, math.MaxInt, 1), at(0, math.MaxInt, top),
		at(41, 0, 42), at(41, 5, top), at(top-1, 9, top), at(top-1, 0, top, 9, top, math.MaxInt, top),
		at(0, 1, 1, 2, 1), at(0, 2, 1, 1, 2), at(0, 0, 1, math.MaxInt, top),
		at(4, 2, 7, 1, 9), at(4, 1, 9, 2, 9), at(10, 9, 13, 1, 15, 4, 15, 0, 21, 2, top),
		at(0, 3, 16, 4, 32, 2, 48, 1, 64, 0, 128), at(15, 3, 16, 2, 17, 1, 32, 0, 33),
		at(0, 5, 64, 4, 65, 3, 128, 2, 129, 1, 4096, 0, 1<<20),
		many(1), many(2), many(63), many(64),
		crowd(63, 1), crowd(64, 1), crowd(64, 40), crowd(64, top),
	}
}

// named is a wheel that may not be, and why.
type named struct {
	why string
	w   api.Wheel
}

// bads are wheels that may not be, each for one reason, where it can be so.
func bads() []named {
	return []named{
		{"Now of -1", at(-1)},
		{"Now of -1, a timer", at(-1, 1, 5)},
		{"Now of -1, a timer at 0", at(-1, 1, 0)},
		{"the least Now", at(math.MinInt)},
		{"the least Now, a timer", at(math.MinInt, 1, 5)},
		{"Now of 2^30 and 1", at(top + 1)},
		{"Now of 2^30 and 1, a timer", at(top+1, 1, top+2)},
		{"the greatest Now", at(math.MaxInt)},
		{"an At of Now", at(5, 1, 5)},
		{"an At of Now, both 0", at(0, 1, 0)},
		{"an At of Now, both 2^30", at(top, 1, top)},
		{"an At below Now", at(5, 1, 4)},
		{"an At of -1", at(0, 1, -1)},
		{"the least At", at(0, 1, math.MinInt)},
		{"the first At is Now", at(5, 1, 5, 2, 6)},
		{"an At of 2^30 and 1", at(0, 1, top+1)},
		{"an At of 2^30 and 1, Now of 2^30", at(top, 1, top+1)},
		{"the last At is 2^30 and 1", at(0, 1, 5, 2, top+1)},
		{"the greatest At", at(0, 1, math.MaxInt)},
		{"an Id of -1", at(0, -1, 5)},
		{"the first Id is -1", at(0, -1, 5, 1, 5)},
		{"the last Id is -1", at(0, 1, 5, -1, 6)},
		{"the least Id", at(0, math.MinInt, 5)},
		{"one At by falling Id", at(0, 2, 5, 1, 5)},
		{"one At by falling Id, at last", at(0, 0, 4, 3, 5, 2, 5)},
		{"one At by falling Id, at first", at(0, 1, 5, 0, 5, 2, 9)},
		{"falling At", at(0, 1, 6, 2, 5)},
		{"falling At, and falling Id", at(0, 2, 6, 1, 5)},
		{"falling At, at last", at(0, 1, 5, 2, 8, 3, 7)},
		{"falling At, at first", at(0, 1, 6, 2, 5, 3, 9)},
		{"falling At of one slot", at(0, 1, 32, 2, 16)},
		{"falling At of one slot, by 64", at(0, 1, 128, 2, 64)},
		{"two of one Id and At", at(0, 1, 5, 1, 5)},
		{"two of one Id", at(0, 1, 5, 1, 6)},
		{"two of one Id, one between", at(0, 1, 5, 2, 5, 1, 6)},
		{"two of one Id, the first and the last", at(0, 1, 5, 2, 6, 3, 7, 4, 8, 1, 9)},
		{"two of Id 0", at(0, 0, 5, 0, 6)},
		{"two of the greatest Id", at(0, math.MaxInt, 5, math.MaxInt, 6)},
		{"65 timers", many(65)},
		{"65 timers at one tick", crowd(65, 9)},
		{"1000 timers", many(1000)},
	}
}

// edges are numbers around all that the chapter names, and far from it.
func edges() []int {
	return []int{math.MinInt, math.MinInt + 1, -1 << 32, -1 << 30, -17, -2, -1, 0, 1, 2, 3, 5, 9, 10, 11, 15, 16, 17, 41, 42, 63, 64, 65, 73, 74, 4096, top - 1, top, top + 1, 1 << 31, 1 << 32, 1<<32 + 5, 1 << 62, math.MaxInt - 1, math.MaxInt}
}

// several are wheels that may be, of all kinds: the goods, and others made by chance.
func several() []api.Wheel {
	l := goods()
	chance := rand.New(rand.NewSource(1))
	for len(l) < 400 {
		now := chance.Intn(100)
		far := []int{2, 5, 17, 40, 200, 5000}[chance.Intn(6)]
		w := api.Wheel{Now: now}
		ids := chance.Perm(100)
		for range chance.Intn(65) {
			w.T = append(w.T, api.Timer{Id: ids[len(w.T)], At: now + 1 + chance.Intn(far)})
		}
		w.T = sorted(w.T)
		l = append(l, w)
	}
	return l
}

// isBefore tells which of two timers stands ahead, by the document's words.
func isBefore(a, b api.Timer) bool {
	if a.At == b.At {
		return a.Id < b.Id
	}
	return a.At < b.At
}

// sorted puts timers in order by taking the one that stands ahead of all others, again and again.
func sorted(l []api.Timer) []api.Timer {
	left := slices.Clone(l)
	var out []api.Timer
	for len(left) > 0 {
		least := 0
		for i := range left {
			if isBefore(left[i], left[least]) {
				least = i
			}
		}
		out = append(out, left[least])
		left = slices.Delete(left, least, least+1)
	}
	return out
}

// otherMay asks the document's words by another way.
func otherMay(w api.Wheel) bool {
	if w.Now <= -1 || w.Now >= top+1 || len(w.T) >= 65 {
		return false
	}
	ids := map[int]int{}
	for _, t := range w.T {
		ids[t.Id]++
		if t.At <= w.Now || t.At >= top+1 || t.Id <= -1 || ids[t.Id] != 1 {
			return false
		}
	}
	return slices.Equal(sorted(w.T), w.T)
}

// otherSplit are the timers of a list whose At is no more than a tick, and the others, in order.
func otherSplit(l []api.Timer, tick int) (due, left []api.Timer) {
	for _, t := range l {
		if t.At <= tick {
			due = append(due, t)
		} else {
			left = append(left, t)
		}
	}
	return due, left
}

// isSame tells whether wheels have the same parts, without asking the package.
func isSame(a, b api.Wheel) bool {
	return a.Now == b.Now && slices.Equal(a.T, b.T)
}

func wantMay(t *testing.T, w api.Wheel, want bool) {
	t.Helper()
	if wheel.May(w) != want {
		t.Fatalf("May(%v): not %t", w, want)
	}
}

func wantSame(t *testing.T, a, b api.Wheel, want bool) {
	t.Helper()
	if wheel.Same(a, b) != want || wheel.Same(b, a) != want {
		t.Fatalf("Same(%v, %v): not %t", a, b, want)
	}
}

func wantAdded(t *testing.T, w api.Wheel, id, tick int, want api.Wheel) {
	t.Helper()
	if v, e := wheel.Add(w, id, tick); e != api.OK || !isSame(v, want) {
		t.Fatalf("Add(%v, %d, %d): %v, %d, not %v", w, id, tick, v, e, want)
	}
}

func wantNotAdded(t *testing.T, w api.Wheel, id, tick int, want api.Errno) {
	t.Helper()
	if v, e := wheel.Add(w, id, tick); e != want || !isSame(v, w) {
		t.Fatalf("Add(%v, %d, %d): %v, %d, not %d", w, id, tick, v, e, want)
	}
}

func wantDropped(t *testing.T, w api.Wheel, id int, want api.Wheel) {
	t.Helper()
	if v, is := wheel.Drop(w, id); !is || !isSame(v, want) {
		t.Fatalf("Drop(%v, %d): %v, %t, not %v", w, id, v, is, want)
	}
}

func wantNotDropped(t *testing.T, w api.Wheel, id int) {
	t.Helper()
	if v, is := wheel.Drop(w, id); is || !isSame(v, w) {
		t.Fatalf("Drop(%v, %d): %v, %t", w, id, v, is)
	}
}

func wantStepped(t *testing.T, w api.Wheel, to int, due, left []api.Timer) {
	t.Helper()
	v, got, e := wheel.Step(w, to)
	if e != api.OK || !isSame(v, api.Wheel{Now: to, T: left}) || !slices.Equal(got, due) {
		t.Fatalf("Step(%v, %d): %v, %v, %d, not %v, %v", w, to, v, got, e, left, due)
	}
}

func wantNotStepped(t *testing.T, w api.Wheel, to int, want api.Errno) {
	t.Helper()
	if v, due, e := wheel.Step(w, to); e != want || len(due) != 0 || !isSame(v, w) {
		t.Fatalf("Step(%v, %d): %v, %v, %d, not %d", w, to, v, due, e, want)
	}
}

func TestP10_1New(t *testing.T) {
	for _, now := range []int{0, 1, 2, 63, 64, 12345, top - 1, top} {
		w, is := wheel.New(now)
		if !is || w.Now != now || len(w.T) != 0 {
			t.Fatalf("New(%d): %v, %t", now, w, is)
		}
		wantMay(t, w, true)
		wantSame(t, w, at(now), true)
	}
}

func TestP10_1NewOfNone(t *testing.T) {
	for _, now := range []int{-1, -2, -64, -top, math.MinInt, math.MinInt + 1, top + 1, top + 2, 1 << 31, 1 << 32, math.MaxInt - 1, math.MaxInt} {
		if w, is := wheel.New(now); is || w.Now != 0 || len(w.T) != 0 {
			t.Fatalf("New(%d): %v, %t", now, w, is)
		}
	}
}

func TestP10_1May(t *testing.T) {
	for _, w := range several() {
		wantMay(t, w, true)
	}
}

func TestP10_1MayNot(t *testing.T) {
	for _, x := range bads() {
		if wheel.May(x.w) {
			t.Fatalf("May(%v): %s", x.w, x.why)
		}
	}
}

// All wheels of a few ticks, with up to three timers of a few numbers and ticks, in any order.
func TestP10_1MaySmallAll(t *testing.T) {
	var all []api.Timer
	for id := -1; id <= 2; id++ {
		for tick := -1; tick <= 3; tick++ {
			all = append(all, api.Timer{Id: id, At: tick})
		}
	}
	for now := -1; now <= 2; now++ {
		wantMay(t, at(now), otherMay(at(now)))
		for _, a := range all {
			one := api.Wheel{Now: now, T: []api.Timer{a}}
			wantMay(t, one, otherMay(one))
			for _, b := range all {
				two := api.Wheel{Now: now, T: []api.Timer{a, b}}
				wantMay(t, two, otherMay(two))
				for _, c := range all {
					three := api.Wheel{Now: now, T: []api.Timer{a, b, c}}
					wantMay(t, three, otherMay(three))
				}
			}
		}
	}
}

// Of every wheel that may be, one number of one timer, or Now, is made another one.
func TestP10_1MayOfOneChange(t *testing.T) {
	for _, w := range goods() {
		for _, n := range edges() {
			v := api.Wheel{Now: n, T: w.T}
			wantMay(t, v, otherMay(v))
			for _, i := range []int{0, 1, len(w.T) / 2, len(w.T) - 1} {
				if i < 0 || i >= len(w.T) {
					continue
				}
				byId := api.Wheel{Now: w.Now, T: slices.Clone(w.T)}
				byId.T[i].Id = n
				wantMay(t, byId, otherMay(byId))
				byAt := api.Wheel{Now: w.Now, T: slices.Clone(w.T)}
				byAt.T[i].At = n
				wantMay(t, byAt, otherMay(byAt))
			}
		}
	}
}

func TestP10_1Same(t *testing.T) {
	for _, w := range append(several()[:60], bad()...) {
		wantSame(t, w, api.Wheel{Now: w.Now, T: slices.Clone(w.T)}, true)
	}
	wantSame(t, api.Wheel{Now: 7}, api.Wheel{Now: 7, T: []api.Timer{}}, true)
	wantSame(t, api.Wheel{}, at(0), true)
}

// bad are the wheels of bads.
func bad() []api.Wheel {
	var l []api.Wheel
	for _, x := range bads() {
		l = append(l, x.w)
	}
	return l
}

// Wheels that differ in one part, or in the order of their timers, whether they may be or not.
func TestP10_1SameNot(t *testing.T) {
	for _, x := range [][2]api.Wheel{
		{at(0), at(1)},
		{at(-1), at(1)},
		{at(0, 1, 5), at(1, 1, 5)},
		{at(0, 1, 5), at(0, 2, 5)},
		{at(0, 1, 5), at(0, 1, 6)},
		{at(0, 1, 5), at(0, 5, 1)},
		{at(0, 1, 5), at(0)},
		{at(0, 1, 5), at(0, 1, 5, 2, 5)},
		{at(0, 1, 5), at(0, 1, 5, 1, 5)},
		{at(0, 2, 5), at(0, 1, 5, 2, 5)},
		{at(0, 1, 5, 2, 5), at(0, 2, 5, 1, 5)},
		{at(0, 1, 5, 2, 6), at(0, 2, 6, 1, 5)},
		{at(0, 1, 5, 2, 6), at(0, 1, 6, 2, 5)},
		{at(0, 1, 5, 2, 6), at(0, 2, 5, 1, 6)},
		{at(0, 1, 5, 2, 6, 3, 7), at(0, 1, 5, 2, 6, 3, 8)},
		{at(0, 1, 5, 2, 6, 3, 7), at(0, 1, 5, 9, 6, 3, 7)},
		{at(0, 1, 5, 2, 6, 3, 7), at(0, 0, 5, 2, 6, 3, 7)},
		{at(0, 1, 16), at(0, 1, 32)},
		{at(0, 1, 64), at(0, 1, 128)},
		{many(64), many(63)},
		{many(64), many(65)},
		{many(64), crowd(64, 10)},
		{crowd(64, 9), crowd(64, 10)},
		{at(math.MaxInt), at(math.MinInt)},
		{at(0, math.MaxInt, 5), at(0, math.MinInt, 5)},
		{at(0, 5, math.MaxInt), at(0, 5, math.MinInt)},
	} {
		wantSame(t, x[0], x[1], false)
	}
}

// Of all these wheels no two are the same, but where all parts are.
func TestP10_1SameEachWithEach(t *testing.T) {
	l := append(several()[:100], bad()...)
	for _, a := range l {
		for _, b := range l {
			if wheel.Same(a, b) != isSame(a, b) {
				t.Fatalf("Same(%v, %v): not %t", a, b, isSame(a, b))
			}
		}
	}
}

func TestP10_2AddKnown(t *testing.T) {
	for _, x := range []struct {
		w        api.Wheel
		id, tick int
		want     api.Wheel
	}{
		{at(0), 0, 1, at(0, 0, 1)},
		{at(0), 1, top, at(0, 1, top)},
		{at(0), math.MaxInt, 1, at(0, math.MaxInt, 1)},
		{at(5), 1, 6, at(5, 1, 6)},
		{at(top - 1), 0, top, at(top-1, 0, top)},
		{at(0, 1, 5), 2, 3, at(0, 2, 3, 1, 5)},
		{at(0, 1, 5), 2, 7, at(0, 1, 5, 2, 7)},
		{at(0, 1, 5), 2, 5, at(0, 1, 5, 2, 5)},
		{at(0, 1, 5), 0, 5, at(0, 0, 5, 1, 5)},
		{at(0, 1, 5, 4, 5, 2, 9), 3, 5, at(0, 1, 5, 3, 5, 4, 5, 2, 9)},
		{at(0, 1, 5, 4, 5, 2, 9), 3, 9, at(0, 1, 5, 4, 5, 2, 9, 3, 9)},
		{at(0, 1, 5, 4, 5, 2, 9), 0, 9, at(0, 1, 5, 4, 5, 0, 9, 2, 9)},
		{at(0, 1, 5, 4, 5, 2, 9), 3, 1, at(0, 3, 1, 1, 5, 4, 5, 2, 9)},
		{at(0, 1, 16, 2, 48), 3, 32, at(0, 1, 16, 3, 32, 2, 48)},
		{at(0, 1, 64, 2, 192), 3, 128, at(0, 1, 64, 3, 128, 2, 192)},
		{at(10, 9, 13, 1, 15), 4, 11, at(10, 4, 11, 9, 13, 1, 15)},
	} {
		wantAdded(t, x.w, x.id, x.tick, x.want)
	}
}

// With one timer more, up to the 64th, wherever it belongs.
func TestP10_2AddUpTo64(t *testing.T) {
	for _, n := range []int{0, 1, 2, 62, 63} {
		w := many(n)
		for _, tick := range []int{1, 9, 10, 11, 41, 72, 73, 100, top} {
			want := api.Wheel{T: sorted(append(slices.Clone(w.T), api.Timer{Id: 70, At: tick}))}
			wantAdded(t, w, 70, tick, want)
		}
		wantAdded(t, crowd(n, 40), n, 40, crowd(n+1, 40))
	}
}

func TestP10_2AddErrArg(t *testing.T) {
	for _, x := range bads() {
		for _, n := range edges() {
			wantNotAdded(t, x.w, n, 42, api.ErrArg)
			wantNotAdded(t, x.w, 7, n, api.ErrArg)
		}
	}
	for _, w := range goods() {
		for _, id := range []int{-1, -2, -64, -1 << 32, math.MinInt + 1, math.MinInt} {
			wantNotAdded(t, w, id, min(w.Now+1, top), api.ErrArg)
		}
	}
}

func TestP10_2AddErrClock(t *testing.T) {
	for _, w := range goods() {
		if len(w.T) == 64 {
			continue
		}
		for _, tick := range []int{w.Now, w.Now - 1, 0, -1, -top, math.MinInt, math.MinInt + 1, top + 1, top + 2, 1 << 31, 1 << 32, 1<<32 + w.Now + 1, math.MaxInt - 1, math.MaxInt} {
			wantNotAdded(t, w, 1000, tick, api.ErrClock)
		}
	}
	// At the last tick no timer can be any more.
	wantNotAdded(t, at(top), 0, top, api.ErrClock)
	wantNotAdded(t, at(top), 0, top+1, api.ErrClock)
}

func TestP10_2AddErrThere(t *testing.T) {
	for _, w := range goods() {
		for _, x := range w.T {
			wantNotAdded(t, w, x.Id, x.At, api.ErrThere)
			wantNotAdded(t, w, x.Id, w.Now+1, api.ErrThere)
			wantNotAdded(t, w, x.Id, top, api.ErrThere)
		}
	}
}

func TestP10_2AddErrFull(t *testing.T) {
	for _, w := range []api.Wheel{many(64), crowd(64, 1), crowd(64, 40), crowd(64, top)} {
		for _, id := range []int{64, 65, 1000, math.MaxInt} {
			for _, tick := range []int{1, 2, 10, 40, 73, 74, top - 1, top} {
				wantNotAdded(t, w, id, tick, api.ErrFull)
			}
		}
	}
}

// Where two errors could be told, the one that the chapter names first is.
func TestP10_2AddFirstError(t *testing.T) {
	w, full := at(5, 1, 7, 3, 9), many(64)
	for _, x := range []struct {
		w        api.Wheel
		id, tick int
		want     api.Errno
	}{
		// ErrArg goes ahead of ErrClock, of ErrThere, of ErrFull.
		{w, -1, 5, api.ErrArg},
		{w, -1, top + 1, api.ErrArg},
		{full, -1, 9, api.ErrArg},
		{full, -1, 0, api.ErrArg},
		{at(5, 1, 5), 2, 5, api.ErrArg},
		{at(5, 1, 5), 1, 6, api.ErrArg},
		{at(5, -1, 7), -1, 9, api.ErrArg},
		{many(65), 3, 9, api.ErrArg},
		{many(65), 70, 9, api.ErrArg},
		{many(65), 70, 0, api.ErrArg},
		// ErrClock goes ahead of ErrThere, and of ErrFull.
		{w, 1, 5, api.ErrClock},
		{w, 3, top + 1, api.ErrClock},
		{full, 3, 0, api.ErrClock},
		{full, 70, 0, api.ErrClock},
		{full, 70, top + 1, api.ErrClock},
		// ErrThere goes ahead of ErrFull.
		{full, 0, 1, api.ErrThere},
		{full, 63, 73, api.ErrThere},
		{full, 64, 73, api.ErrFull},
	} {
		wantNotAdded(t, x.w, x.id, x.tick, x.want)
	}
}

func TestP10_2DropKnown(t *testing.T) {
	w := at(10, 9, 13, 1, 15, 4, 15, 0, 21, 2, top)
	for _, x := range []struct {
		id   int
		want api.Wheel
	}{
		{9, at(10, 1, 15, 4, 15, 0, 21, 2, top)},
		{1, at(10, 9, 13, 4, 15, 0, 21, 2, top)},
		{4, at(10, 9, 13, 1, 15, 0, 21, 2, top)},
		{0, at(10, 9, 13, 1, 15, 4, 15, 2, top)},
		{2, at(10, 9, 13, 1, 15, 4, 15, 0, 21)},
	} {
		wantDropped(t, w, x.id, x.want)
	}
	// The only one.
	wantDropped(t, at(0, 0, 1), 0, at(0))
	wantDropped(t, at(3, 5, top), 5, at(3))
	wantDropped(t, at(0, math.MaxInt, 1), math.MaxInt, at(0))
}

func TestP10_2DropAll(t *testing.T) {
	for _, w := range several() {
		for i, x := range w.T {
			want := api.Wheel{Now: w.Now, T: slices.Concat(w.T[:i], w.T[i+1:])}
			wantDropped(t, w, x.Id, want)
			wantNotDropped(t, want, x.Id)
		}
	}
}

func TestP10_2DropOfNone(t *testing.T) {
	for _, w := range several() {
		for _, id := range append(edges(), w.Now, len(w.T), 100, 1000) {
			if !slices.ContainsFunc(w.T, func(x api.Timer) bool { return x.Id == id }) {
				wantNotDropped(t, w, id)
			}
		}
	}
	// The tick of a timer is not its number.
	wantNotDropped(t, at(0, 1, 5), 5)
	wantNotDropped(t, at(7, 1, 9), 7)
}

func TestP10_2DropOfNoWheel(t *testing.T) {
	for _, x := range bads() {
		for _, id := range edges() {
			wantNotDropped(t, x.w, id)
		}
		for _, timer := range x.w.T {
			wantNotDropped(t, x.w, timer.Id)
		}
	}
}

func TestP10_3StepKnown(t *testing.T) {
	w := at(10, 9, 13, 1, 15, 4, 15, 0, 21, 2, top)
	for _, x := range []struct{ to, due int }{
		{10, 0}, {11, 0}, {12, 0}, {13, 1}, {14, 1}, {15, 3}, {16, 3}, {20, 3}, {21, 4}, {22, 4}, {26, 4}, {27, 4}, {74, 4}, {75, 4}, {1000, 4}, {top - 1, 4}, {top, 5},
	} {
		wantStepped(t, w, x.to, w.T[:x.due], w.T[x.due:])
	}
	// One, some, all and none at one tick.
	wantStepped(t, at(0, 3, 1), 1, list(3, 1), nil)
	wantStepped(t, at(0, 0, 1, 3, 1, 2, 2), 1, list(0, 1, 3, 1), list(2, 2))
	wantStepped(t, crowd(64, 40), 40, crowd(64, 40).T, nil)
	wantStepped(t, crowd(64, 40), 39, nil, crowd(64, 40).T)
	wantStepped(t, crowd(64, 40), 41, crowd(64, 40).T, nil)
	wantStepped(t, crowd(64, top), top, crowd(64, top).T, nil)
	wantStepped(t, many(64), 10, list(0, 10), many(64).T[1:])
	wantStepped(t, many(64), 72, many(64).T[:63], list(63, 73))
	wantStepped(t, many(64), 73, many(64).T, nil)
	wantStepped(t, at(top-1, 0, top), top, list(0, top), nil)
	wantStepped(t, at(top-1, 0, top), top-1, nil, list(0, top))
	wantStepped(t, at(top), top, nil, nil)
	wantStepped(t, at(0), top, nil, nil)
}

// Timers whose At differ by what a slot's turn may be are due each at its own tick, and in order.
func TestP10_3StepThroughTurns(t *testing.T) {
	for _, turn := range []int{1, 2, 3, 4, 7, 8, 15, 16, 17, 31, 32, 33, 63, 64, 65, 127, 128, 256, 1024, 4096, 65536, 1 << 20} {
		for _, now := range []int{0, 1, turn - 1, turn, turn + 1, 3*turn + 1} {
			w := api.Wheel{Now: now}
			for i := range 10 {
				w.T = append(w.T, api.Timer{Id: 20 - 2*i, At: now + (i+1)*turn}, api.Timer{Id: 41 - 2*i, At: now + (i+1)*turn})
			}
			for i := range 10 {
				wantStepped(t, w, now+(i+1)*turn-1, w.T[:2*i], w.T[2*i:])
				wantStepped(t, w, now+(i+1)*turn, w.T[:2*i+2], w.T[2*i+2:])
			}
		}
	}
}

// To every tick up to beyond the last timer.
func TestP10_3StepAll(t *testing.T) {
	for _, w := range several() {
		for to := w.Now; to <= min(w.Now+300, top); to++ {
			due, left := otherSplit(w.T, to)
			wantStepped(t, w, to, due, left)
		}
		for _, x := range append(w.T, api.Timer{At: top}, api.Timer{At: top - 1}) {
			for _, to := range []int{x.At - 1, x.At, x.At + 1} {
				if to >= w.Now && to <= top {
					due, left := otherSplit(w.T, to)
					wantStepped(t, w, to, due, left)
				}
			}
		}
	}
}

func TestP10_3StepToNow(t *testing.T) {
	for _, w := range several() {
		wantStepped(t, w, w.Now, nil, w.T)
	}
}

func TestP10_3StepErrClock(t *testing.T) {
	for _, w := range several() {
		for _, to := range []int{w.Now - 1, w.Now - 2, w.Now - 64, -1, -2, -top, -1 << 32, math.MinInt, math.MinInt + 1, top + 1, top + 2, 1 << 31, 1 << 32, 1<<32 + w.Now + 1, math.MaxInt - 1, math.MaxInt} {
			wantNotStepped(t, w, to, api.ErrClock)
		}
	}
	wantNotStepped(t, at(5, 1, 7), 0, api.ErrClock)
	wantNotStepped(t, at(5, 1, 7), 4, api.ErrClock)
	wantNotStepped(t, at(0), -1, api.ErrClock)
	wantNotStepped(t, at(top), top-1, api.ErrClock)
	wantNotStepped(t, at(top), top+1, api.ErrClock)
}

// A wheel that may not be is told ErrArg, whether the tick may be or not.
func TestP10_3StepErrArg(t *testing.T) {
	for _, x := range bads() {
		for _, to := range append(edges(), x.w.Now, x.w.Now-1, x.w.Now+1) {
			wantNotStepped(t, x.w, to, api.ErrArg)
		}
	}
}

// What may be stays so, whatever it is asked, and with an error it is as it was.
func TestP10_4StaysSo(t *testing.T) {
	for _, w := range goods() {
		for _, n := range append(edges(), w.Now, w.Now+1, w.Now-1) {
			v, is := wheel.Drop(w, n)
			wantStays(t, w, v, is)
			v, due, e := wheel.Step(w, n)
			wantStays(t, w, v, e == api.OK)
			if e == api.OK && len(due)+len(v.T) != len(w.T) {
				t.Fatalf("Step(%v, %d): %d are due, %d are left", w, n, len(due), len(v.T))
			}
			for _, m := range append(edges(), w.Now, w.Now+1) {
				v, e := wheel.Add(w, n, m)
				wantStays(t, w, v, e == api.OK)
			}
		}
	}
}

func wantStays(t *testing.T, w, v api.Wheel, is bool) {
	t.Helper()
	if !otherMay(v) || !wheel.May(v) || !is && !isSame(v, w) {
		t.Fatalf("of %v came %v, %t", w, v, is)
	}
}

// Calls one behind the other, by chance, make what a plain list of timers tells.
func TestP10_4Calls(t *testing.T) {
	chance := rand.New(rand.NewSource(2))
	for range 60 {
		far := []int{3, 20, 70, 600, 100000}[chance.Intn(5)]
		ids := []int{3, 40, 90}[chance.Intn(3)]
		w, _ := wheel.New(chance.Intn(50))
		for range 200 {
			was := api.Wheel{Now: w.Now, T: slices.Clone(w.T)}
			id, tick := chance.Intn(ids), w.Now+chance.Intn(far)
			switch chance.Intn(8) {
			case 0:
				if due, left := otherSplit(was.T, tick); tick <= top {
					wantStepped(t, w, tick, due, left)
				}
				w, _, _ = wheel.Step(w, tick)
			case 1:
				left := slices.DeleteFunc(slices.Clone(was.T), func(x api.Timer) bool { return x.Id == id })
				if len(left) < len(was.T) {
					wantDropped(t, w, id, api.Wheel{Now: was.Now, T: left})
				} else {
					wantNotDropped(t, w, id)
				}
				w, _ = wheel.Drop(w, id)
			default:
				e := otherAdd(was, id, tick)
				if e == api.OK {
					wantAdded(t, w, id, tick, api.Wheel{Now: was.Now, T: sorted(append(was.T, api.Timer{Id: id, At: tick}))})
				} else {
					wantNotAdded(t, w, id, tick, e)
				}
				w, _ = wheel.Add(w, id, tick)
			}
			wantStays(t, w, w, true)
		}
	}
}

// otherAdd tells what Add of a wheel that may be, and a number that may be, is to tell.
func otherAdd(w api.Wheel, id, tick int) api.Errno {
	if tick <= w.Now || tick > top {
		return api.ErrClock
	}
	for _, x := range w.T {
		if x.Id == id {
			return api.ErrThere
		}
	}
	if len(w.T) >= 64 {
		return api.ErrFull
	}
	return api.OK
}

// By one step, or by two to the same tick, the same timers are due, in the same order, and the same wheel is left.
func TestP10_4OneStepOrTwo(t *testing.T) {
	chance := rand.New(rand.NewSource(3))
	for _, w := range several() {
		ends := []int{w.Now, min(w.Now+1, top), top - 1, top}
		for _, x := range w.T {
			ends = append(ends, x.At-1, x.At, min(x.At+1, top))
		}
		for range 10 {
			ends = append(ends, min(w.Now+chance.Intn(100), top))
		}
		for range 60 {
			wantOneOrTwo(t, w, ends[chance.Intn(len(ends))], ends[chance.Intn(len(ends))])
		}
	}
}

// wantOneOrTwo steps to the greater of two ticks, at once and by way of the lesser one.
func wantOneOrTwo(t *testing.T, w api.Wheel, a, b int) {
	t.Helper()
	mid, to := max(min(a, b), w.Now), max(a, b, w.Now)
	one, due, e := wheel.Step(w, to)
	half, first, f := wheel.Step(w, mid)
	two, second, g := wheel.Step(half, to)
	if e != api.OK || f != api.OK || g != api.OK {
		t.Fatalf("%v to %d, %d: %d, %d, %d", w, mid, to, e, f, g)
	}
	if all := slices.Concat(first, second); !slices.Equal(due, all) || !isSame(one, two) {
		t.Fatalf("%v to %d: %v, %v; by way of %d: %v, %v", w, to, due, one, mid, all, two)
	}
}

// Tick by tick just the timers of that tick are due, and in all the same as by one step.
func TestP10_4TickByTick(t *testing.T) {
	for _, w := range several() {
		v, to := w, min(w.Now+250, top)
		var all []api.Timer
		for range to - w.Now {
			next, due, _ := wheel.Step(v, v.Now+1)
			for _, x := range due {
				if x.At != next.Now {
					t.Fatalf("%v was due at %d", x, next.Now)
				}
			}
			v, all = next, append(all, due...)
		}
		one, due, _ := wheel.Step(w, to)
		if !slices.Equal(due, all) || !isSame(one, v) {
			t.Fatalf("%v to %d: %v, %v; tick by tick: %v, %v", w, to, due, one, all, v)
		}
	}
}

// In any order in which timers are added, the same wheel comes of it; dropped in any other one, it is as it was.
func TestP10_4InAnyOrder(t *testing.T) {
	chance := rand.New(rand.NewSource(4))
	for _, w := range several() {
		v, _ := wheel.New(w.Now)
		for _, i := range chance.Perm(len(w.T)) {
			v, _ = wheel.Add(v, w.T[i].Id, w.T[i].At)
			wantMay(t, v, true)
		}
		wantSame(t, v, w, true)
		for _, i := range chance.Perm(len(w.T)) {
			v, _ = wheel.Drop(v, w.T[i].Id)
			wantMay(t, v, true)
		}
		wantSame(t, v, at(w.Now), true)
	}
}

// roomy is a wheel whose timers have room behind them, and the whole of that memory.
func roomy(w api.Wheel) (api.Wheel, []api.Timer) {
	all := make([]api.Timer, len(w.T)+9)
	for i := range all {
		all[i] = api.Timer{Id: -7, At: -7}
	}
	copy(all, w.T)
	return api.Wheel{Now: w.Now, T: all[:len(w.T)]}, all
}

// spoil overwrites a list, and the room behind it.
func spoil(l []api.Timer) {
	l = l[:cap(l)]
	for i := range l {
		l[i] = api.Timer{Id: -9, At: -9}
	}
}

// answers are all lists that calls answer when made with a wheel.
func answers(w api.Wheel, id, tick int) [][]api.Timer {
	added, _ := wheel.Add(w, id, tick)
	dropped, _ := wheel.Drop(w, id)
	stepped, due, _ := wheel.Step(w, tick)
	return [][]api.Timer{added.T, dropped.T, stepped.T, due}
}

// asked are what answers is asked of a wheel: each call's OK, and each of its errors.
func asked(w api.Wheel) []api.Timer {
	l := []api.Timer{{Id: 70, At: w.Now + 1}, {Id: 70, At: w.Now + 20}, {Id: 70, At: w.Now}, {Id: 70, At: w.Now - 1}, {Id: 70, At: top}, {Id: 70, At: top + 1}, {Id: -1, At: top}}
	for _, i := range []int{0, len(w.T) / 2, len(w.T) - 1} {
		if i >= 0 && i < len(w.T) {
			l = append(l, w.T[i])
		}
	}
	return l
}

// Calls change nothing of the wheel that is handed in, nor of what stands behind its timers.
func TestR3HandedInStays(t *testing.T) {
	for _, w := range append(several()[:80], bad()...) {
		for _, x := range asked(w) {
			v, all := roomy(w)
			was := slices.Clone(all)
			wheel.May(v)
			wheel.Same(v, v)
			for _, l := range answers(v, x.Id, x.At) {
				spoil(l)
				_ = append(l, api.Timer{Id: -8, At: -8})
			}
			if !slices.Equal(all, was) || v.Now != w.Now {
				t.Fatalf("%v, asked for %v: %v behind it", w, x, all)
			}
		}
	}
}

// What is answered is the caller's own: changes to what was handed in, or to another answer, change nothing of it.
func TestR3AnswersAreTheCallersOwn(t *testing.T) {
	for _, w := range append(several()[:80], bad()...) {
		for _, x := range asked(w) {
			want := answers(w, x.Id, x.At)
			for i := range want {
				v, all := roomy(w)
				got := answers(v, x.Id, x.At)
				spoil(all)
				for j, l := range got {
					if j != i {
						spoil(l)
					}
				}
				if !slices.Equal(got[i], want[i]) {
					t.Fatalf("%v, asked for %v: answer %d: %v, not %v", w, x, i, got[i], want[i])
				}
			}
		}
	}
}

// No call hangs on the ones ahead.
func TestR5NothingIsKept(t *testing.T) {
	w := at(0, 2, 3, 1, 5)
	for range 3 {
		wantNotStepped(t, at(5, 1, 5), 9, api.ErrArg)
		wantStepped(t, w, 4, list(2, 3), list(1, 5))
		wantStepped(t, many(64), 20, many(64).T[:11], many(64).T[11:])
		wantAdded(t, w, 0, 4, at(0, 2, 3, 0, 4, 1, 5))
		wantDropped(t, w, 2, at(0, 1, 5))
	}
}

// Whatever numbers calls are made with, they end, and answer by the document's words.
func TestP1AnyNumbers(t *testing.T) {
	for _, n := range edges() {
		for _, m := range edges() {
			for _, w := range []api.Wheel{at(n), at(n, 1, m), at(n, m, top), at(0, n, m), at(0, 1, n, 2, m), at(5, n, 9, m, 9), at(n, n, m, m, n)} {
				may := otherMay(w)
				wantMay(t, w, may)
				if !may {
					wantNotAdded(t, w, n, m, api.ErrArg)
					wantNotDropped(t, w, n)
					wantNotStepped(t, w, m, api.ErrArg)
					continue
				}
				if e := otherAdd(w, n, m); n < 0 {
					wantNotAdded(t, w, n, m, api.ErrArg)
				} else if e != api.OK {
					wantNotAdded(t, w, n, m, e)
				} else {
					wantAdded(t, w, n, m, api.Wheel{Now: w.Now, T: sorted(append(slices.Clone(w.T), api.Timer{Id: n, At: m}))})
				}
				if due, left := otherSplit(w.T, m); m < w.Now || m > top {
					wantNotStepped(t, w, m, api.ErrClock)
				} else {
					wantStepped(t, w, m, due, left)
				}
			}
		}
	}
}

// The document's example: timers 1 at 5 and 2 at 3, stepped to 4.
func TestExample(t *testing.T) {
	w, _ := wheel.New(0)
	w, _ = wheel.Add(w, 1, 5)
	w, _ = wheel.Add(w, 2, 3)
	wantStepped(t, w, 4, list(2, 3), list(1, 5))
}
