package event_test

import (
	"bytes"
	"math"
	"math/rand"
	"slices"
	"testing"

	"moorings/alloc"
	"moorings/api"
	"moorings/event"
)

// top is the greatest tick.
const top = 1 << 30

func grant(at, sub, addr, blk int) api.Event {
	return api.Event{Kind: api.EvGrant, At: at, A: sub, B: addr, C: blk}
}

func free(at, sub, addr, blk int) api.Event {
	return api.Event{Kind: api.EvFree, At: at, A: sub, B: addr, C: blk}
}

func add(at, from, n int) api.Event { return api.Event{Kind: api.EvAdd, At: at, A: from, B: n} }
func drain(at, k int) api.Event     { return api.Event{Kind: api.EvDrain, At: at, A: k} }
func size(at, k, n int) api.Event   { return api.Event{Kind: api.EvSize, At: at, A: k, B: n} }
func gone(at, k int) api.Event      { return api.Event{Kind: api.EvGone, At: at, A: k} }

func policy(at, quota, idle, hold int, pair bool) api.Event {
	return api.Event{Kind: api.EvPolicy, At: at, P: api.Policy{Quota: quota, Idle: idle, Hold: hold, Pair: pair}}
}

// list is a list of those.
func list(l ...api.Event) []api.Event { return l }

// with is an event, changed.
func with(e api.Event, change func(e *api.Event)) api.Event {
	change(&e)
	return e
}

// middles are one event of each kind, by its kind, far from all edges.
func middles() []api.Event {
	return list(grant(700, 9, 2, 5), free(700, 9, 2, 5), add(700, 1, 2), drain(700, 1), size(700, 1, 2), gone(700, 1), policy(700, 3, 300, 40, false))
}

// goods are events that may be, of each kind at its edges.
func goods() []api.Event {
	l := append(middles(),
		policy(0, 1, 1, 0, false), policy(0, 1, 1, 0, true), policy(0, 8, 1, 0, false), policy(0, 1, 1<<20, 0, false), policy(0, 1, 1, 1, false),
		policy(0, 1, 1, 1<<20, false), policy(top, 8, 1<<20, 1<<20, true), policy(1, 7, 1<<20-1, 1<<20-1, true), policy(5, 2, 127, 128, true))
	for _, at := range []int{0, 1, 7, 8, top - 1, top} {
		l = append(l, add(at, 0, 1), add(at, 0, 4), add(at, 3, 1), add(at, 3, 4), add(at, 2, 3), size(at, 0, 1), size(at, 0, 4), size(at, 2, 1), size(at, 2, 4),
			drain(at, 0), drain(at, 2), gone(at, 0), gone(at, 2), policy(at, 2, 10, 5, at%2 == 0))
		for _, sub := range []int{0, 1, 15, 30, 31} {
			for _, addr := range []int{0, 1, 3} {
				for _, blk := range []int{0, 1, 7} {
					l = append(l, grant(at, sub, addr, blk), free(at, sub, addr, blk))
				}
			}
		}
	}
	return l
}

// edges are numbers around all that the chapter names, and far from it, also such that 8, 16 or 32 times they wrap around.
func edges() []int {
	return []int{math.MinInt, math.MinInt + 1, math.MinInt + top, -1 << 61, -1 << 60, -1 << 59, -1 << 58, -1 << 40, -1 << 32, -1 << 30, -32, -16, -8, -4, -2, -1, 0, 1, 2, 3, 4, 5, 6, 7, 8, 9, 15, 16, 17, 30, 31, 32, 33, 40, 63, 64, 127, 128, 255, 256, 700, 1023, 1024, 1<<20 - 1, 1 << 20, 1<<20 + 1, top - 1, top, top + 1, 1 << 32, 1 << 40, 1<<40 + 1, 1 << 58, 1 << 59, 1 << 60, 1 << 61, 1 << 62, math.MaxInt - top, math.MaxInt - 1, math.MaxInt}
}

// far are the numbers whose sums and differences deceive.
func far() []int {
	return []int{math.MinInt, math.MinInt + 1, -1 << 59, -1, 0, 1, 1 << 59, 1 << 60, math.MaxInt - 1, math.MaxInt}
}

// places are all numbers of an event.
func places(e *api.Event) []*int {
	return []*int{&e.Kind, &e.At, &e.A, &e.B, &e.C, &e.P.Quota, &e.P.Idle, &e.P.Hold}
}

// otherMay asks the document's words by another way.
func otherMay(e api.Event) bool { return len(whyNot(e)) == 0 }

// whyNot are the conditions that an event breaks.
func whyNot(e api.Event) []string {
	var why []string
	from := func(what string, n, least, most int) {
		if min(max(n, least), most) != n {
			why = append(why, what)
		}
	}
	from("At", e.At, 0, 1073741824)
	switch e.Kind {
	case 0, 1:
		from("A", e.A, 0, 31)
		from("B", e.B, 0, 3)
		from("C", e.C, 0, 7)
	case 2:
		from("A", e.A, 0, 3)
		from("B", e.B, 1, 4)
		from("C", e.C, 0, 0)
	case 3, 5:
		from("A", e.A, 0, 2)
		from("B", e.B, 0, 0)
		from("C", e.C, 0, 0)
	case 4:
		from("A", e.A, 0, 2)
		from("B", e.B, 1, 4)
		from("C", e.C, 0, 0)
	case 6:
		from("A", e.A, 0, 0)
		from("B", e.B, 0, 0)
		from("C", e.C, 0, 0)
		from("Quota", e.P.Quota, 1, 8)
		from("Idle", e.P.Idle, 1, 1048576)
		from("Hold", e.P.Hold, 0, 1048576)
		return why
	default:
		return append(why, "Kind")
	}
	from("Quota", e.P.Quota, 0, 0)
	from("Idle", e.P.Idle, 0, 0)
	from("Hold", e.P.Hold, 0, 0)
	if e.P.Pair {
		why = append(why, "Pair")
	}
	return why
}

// otherNumbers are an event's numbers, by the document's words.
func otherNumbers(e api.Event) []int {
	switch e.Kind {
	case 0, 1:
		return []int{32*e.A + 8*e.B + e.C}
	case 2, 4:
		return []int{8*e.A + e.B}
	case 3, 5:
		return []int{e.A}
	}
	if e.P.Pair {
		return []int{e.P.Quota, e.P.Idle, e.P.Hold, 1}
	}
	return []int{e.P.Quota, e.P.Idle, e.P.Hold, 0}
}

// bytesOf are the bytes of numbers, one behind the other.
func bytesOf(l ...int) []byte {
	var b []byte
	for _, n := range l {
		for ; n > 127; n >>= 7 {
			b = append(b, byte(n&127|128))
		}
		b = append(b, byte(n))
	}
	return b
}

// numbersOf are the numbers of bytes; false if they are no numbers'.
func numbersOf(b []byte) ([]int, bool) {
	var l []int
	for len(b) > 0 {
		end := slices.IndexFunc(b, func(c byte) bool { return c < 128 })
		if end < 0 || end > 5 || end > 0 && b[end] == 0 {
			return nil, false
		}
		n := 0
		for i := end; i >= 0; i-- {
			n = n<<7 | int(b[i]&127)
		}
		if n > 1099511627776 {
			return nil, false
		}
		l = append(l, n)
		b = b[end+1:]
	}
	return l, true
}

// otherPut tells what Put is to answer.
func otherPut(at int, l []api.Event) ([]byte, bool) {
	ticks := []int{at}
	for _, e := range l {
		if !otherMay(e) {
			return nil, false
		}
		ticks = append(ticks, e.At)
	}
	if at < 0 || at > 1073741824 || !slices.IsSorted(ticks) {
		return nil, false
	}
	var all []int
	for i, e := range l {
		all = append(all, 16*(e.At-ticks[i])+e.Kind)
		all = append(all, otherNumbers(e)...)
	}
	if len(all) > 400 {
		return nil, false
	}
	return bytesOf(all...), true
}

// meant are the events of one number that may be, at tick 0, by their kind and that number.
var meant = meanings()

func meanings() map[[2]int]api.Event {
	all := map[[2]int]api.Event{}
	for kind := range 6 {
		for a := range 32 {
			for b := range 5 {
				for c := range 8 {
					e := api.Event{Kind: kind, A: a, B: b, C: c}
					if otherMay(e) {
						all[[2]int{kind, otherNumbers(e)[0]}] = e
					}
				}
			}
		}
	}
	return all
}

// otherRead tells what Read is to answer.
func otherRead(at int, b []byte) ([]api.Event, bool) {
	n, is := numbersOf(b)
	if !is || len(n) > 400 || at < 0 || at > 1073741824 {
		return nil, false
	}
	var l []api.Event
	for len(n) > 0 {
		kind := n[0] & 15
		at += n[0] >> 4
		n = n[1:]
		var e api.Event
		switch {
		case kind == 6 && len(n) >= 4 && n[3] <= 1:
			e = policy(0, n[0], n[1], n[2], n[3] == 1)
			n = n[4:]
			is = otherMay(e)
		case kind < 6 && len(n) >= 1:
			e, is = meant[[2]int{kind, n[0]}]
			n = n[1:]
		default:
			is = false
		}
		if e.At = at; !is || at > 1073741824 {
			return nil, false
		}
		l = append(l, e)
	}
	return l, true
}

func wantMay(t *testing.T, e api.Event, want bool) {
	t.Helper()
	if event.May(e) != want {
		t.Fatalf("May(%v): not %t; it breaks %v", e, want, whyNot(e))
	}
}

func wantSame(t *testing.T, a, b []api.Event, want bool) {
	t.Helper()
	if event.Same(a, b) != want || event.Same(b, a) != want {
		t.Fatalf("Same(%v, %v): not %t", a, b, want)
	}
}

// wantPut wants bytes, and that these are read as the events again.
func wantPut(t *testing.T, at int, l []api.Event, want []byte) {
	t.Helper()
	if b, is := event.Put(at, l); !is || !bytes.Equal(b, want) {
		t.Fatalf("Put(%d, %v): %v, %t, not %v", at, l, b, is, want)
	}
	wantRead(t, at, want, l)
}

func wantNotPut(t *testing.T, at int, l []api.Event) {
	t.Helper()
	if b, is := event.Put(at, l); is || len(b) != 0 {
		t.Fatalf("Put(%d, %v): %v, %t", at, l, b, is)
	}
}

func wantRead(t *testing.T, at int, b []byte, want []api.Event) {
	t.Helper()
	if l, is := event.Read(at, b); !is || !slices.Equal(l, want) {
		t.Fatalf("Read(%d, %v): %v, %t, not %v", at, b, l, is, want)
	}
}

func wantNotRead(t *testing.T, at int, b []byte) {
	t.Helper()
	if l, is := event.Read(at, b); is || len(l) != 0 {
		t.Fatalf("Read(%d, %v): %v, %t", at, b, l, is)
	}
}

// wantAsOtherPut holds Put against the second reading of the chapter.
func wantAsOtherPut(t *testing.T, at int, l []api.Event) {
	t.Helper()
	if b, is := otherPut(at, l); is {
		wantPut(t, at, l, b)
	} else {
		wantNotPut(t, at, l)
	}
}

// wantAsOtherRead holds Read against the second reading of the chapter; it tells whether there were events.
func wantAsOtherRead(t *testing.T, at int, b []byte) bool {
	t.Helper()
	l, is := otherRead(at, b)
	if is {
		wantRead(t, at, b, l)
	} else {
		wantNotRead(t, at, b)
	}
	return is
}

// anyEvent is an event that may be, of a chance, at most so many ticks behind one.
func anyEvent(chance *rand.Rand, at, ahead int) api.Event {
	at = min(top, at+chance.Intn(ahead+1))
	switch chance.Intn(9) {
	case 0:
		return add(at, chance.Intn(4), 1+chance.Intn(4))
	case 1:
		return drain(at, chance.Intn(3))
	case 2:
		return size(at, chance.Intn(3), 1+chance.Intn(4))
	case 3:
		return gone(at, chance.Intn(3))
	case 4:
		return policy(at, 1+chance.Intn(8), 1+chance.Intn(1<<chance.Intn(21)), chance.Intn(1<<chance.Intn(21)), chance.Intn(2) == 0)
	case 5, 6:
		return free(at, chance.Intn(32), chance.Intn(4), chance.Intn(8))
	}
	return grant(at, chance.Intn(32), chance.Intn(4), chance.Intn(8))
}

// run is a list of events that go on from a tick.
type run struct {
	at int
	l  []api.Event
}

// anyRuns are so many runs, of chances of a seed, of up to 20 events.
func anyRuns(seed int64, many int) []run {
	chance := rand.New(rand.NewSource(seed))
	var all []run
	for range many {
		x := run{at: []int{0, 1, 5, 127, 1 << 20, top - 1000, top - 1, top}[chance.Intn(8)]}
		ahead := []int{0, 1, 3, 7, 8, 500, 1 << 20, 1 << 29}[chance.Intn(8)]
		at := x.at
		for range chance.Intn(21) {
			e := anyEvent(chance, at, ahead)
			x.l = append(x.l, e)
			at = e.At
		}
		all = append(all, x)
	}
	return all
}

// ends are where the bytes of each of a run's events end.
func (x run) ends(t *testing.T) []int {
	t.Helper()
	l := []int{0}
	for k := range x.l {
		b, is := event.Put(x.at, x.l[:k+1])
		if !is {
			t.Fatalf("Put(%d, %v): none", x.at, x.l[:k+1])
		}
		l = append(l, len(b))
	}
	return l
}

// mixed are so many events of five numbers, and of two, one of these behind each of those as long as there are both.
func mixed(fives, twos int) []api.Event {
	var l []api.Event
	for i := range max(fives, twos) {
		if i < fives {
			l = append(l, policy(10+i, 1+i%8, 1+i, i, i%3 == 0))
		}
		if i < twos {
			l = append(l, middles()[i%6])
			l[len(l)-1].At = 10 + i
		}
	}
	return l
}

func TestP14_1May(t *testing.T) {
	for _, e := range goods() {
		wantMay(t, e, true)
	}
}

// wrong is an event that breaks one condition, and it alone.
type wrong struct {
	why string
	e   api.Event
}

// bads are events that may not be, each for one reason.
func bads() []wrong {
	var l []wrong
	bad := func(why string, all ...api.Event) {
		for _, e := range all {
			l = append(l, wrong{why, e})
		}
	}
	bad("A", grant(0, -1, 0, 0), grant(0, 32, 0, 0), grant(0, math.MinInt, 0, 0), grant(0, math.MaxInt, 0, 0), grant(0, 1<<59, 0, 0), grant(0, -1, 3, 7),
		free(0, -1, 0, 0), free(0, 32, 0, 0), free(0, math.MinInt, 0, 0), free(0, math.MaxInt, 0, 0), free(0, 1<<59, 0, 0), free(0, -1, 3, 7),
		add(0, -1, 1), add(0, 4, 1), add(0, math.MinInt, 1), add(0, math.MaxInt, 1), add(0, 1<<61, 1), drain(0, -1), drain(0, 3), drain(0, math.MinInt), drain(0, math.MaxInt),
		size(0, -1, 1), size(0, 3, 1), size(0, math.MinInt, 1), size(0, math.MaxInt, 1), size(0, 1<<61, 1), gone(0, -1), gone(0, 3), gone(0, math.MinInt), gone(0, math.MaxInt))
	bad("B", grant(0, 0, -1, 0), grant(0, 0, 4, 0), grant(0, 0, math.MinInt, 0), grant(0, 0, math.MaxInt, 0), grant(0, 0, 1<<61, 0), grant(0, 1, -1, 0), grant(0, 1, -4, 0),
		free(0, 0, -1, 0), free(0, 0, 4, 0), free(0, 0, math.MinInt, 0), free(0, 0, math.MaxInt, 0), free(0, 0, 1<<61, 0), free(0, 1, -1, 0), free(0, 1, -4, 0),
		add(0, 0, -1), add(0, 0, 0), add(0, 0, 5), add(0, 1, 0), add(0, 0, 8), add(0, 1, -4), add(0, 0, math.MinInt), add(0, 0, math.MaxInt),
		size(0, 0, -1), size(0, 0, 0), size(0, 0, 5), size(0, 1, 0), size(0, 0, 8), size(0, 1, -4), size(0, 0, math.MinInt), size(0, 0, math.MaxInt))
	bad("C", grant(0, 0, 0, -1), grant(0, 0, 0, 8), grant(0, 0, 1, -1), grant(0, 1, 0, -8), grant(0, 0, 0, math.MinInt), grant(0, 0, 0, math.MaxInt),
		free(0, 0, 0, -1), free(0, 0, 0, 8), free(0, 0, 1, -1), free(0, 1, 0, -8), free(0, 0, 0, math.MinInt), free(0, 0, 0, math.MaxInt))
	for _, n := range []int{-1, 1, 7, 8, math.MinInt, math.MaxInt} {
		for _, e := range list(add(0, 1, 2), drain(0, 1), size(0, 1, 2), gone(0, 1), policy(0, 1, 1, 0, true)) {
			bad("C", with(e, func(e *api.Event) { e.C = n }))
		}
		for _, e := range list(drain(0, 1), gone(0, 1), policy(0, 1, 1, 0, true)) {
			bad("B", with(e, func(e *api.Event) { e.B = n }))
		}
		bad("A", with(policy(0, 1, 1, 0, true), func(e *api.Event) { e.A = n }))
	}
	for _, e := range middles() {
		for _, at := range []int{-1, top + 1, math.MinInt, math.MaxInt, -1 << 60, 1 << 60} {
			bad("At", with(e, func(e *api.Event) { e.At = at }))
		}
		if e.Kind == api.EvPolicy {
			continue
		}
		for _, n := range []int{-1, 1, math.MinInt, math.MaxInt} {
			bad("Quota", with(e, func(e *api.Event) { e.P.Quota = n }))
			bad("Idle", with(e, func(e *api.Event) { e.P.Idle = n }))
			bad("Hold", with(e, func(e *api.Event) { e.P.Hold = n }))
		}
		bad("Pair", with(e, func(e *api.Event) { e.P.Pair = true }))
	}
	bad("Quota", policy(0, 0, 1, 0, false), policy(0, -1, 1, 0, false), policy(0, 9, 1, 0, false), policy(0, math.MinInt, 1, 0, true), policy(0, math.MaxInt, 1, 0, true))
	bad("Idle", policy(0, 1, 0, 0, false), policy(0, 1, -1, 0, false), policy(0, 1, 1<<20+1, 0, false), policy(0, 1, math.MinInt, 0, true), policy(0, 1, math.MaxInt, 0, true))
	bad("Hold", policy(0, 1, 1, -1, false), policy(0, 1, 1, 1<<20+1, false), policy(0, 1, 1, math.MinInt, true), policy(0, 1, 1, math.MaxInt, true))
	for _, kind := range noKinds() {
		bad("Kind", api.Event{Kind: kind}, api.Event{Kind: kind, At: 5, A: 1, B: 1})
	}
	return l
}

// noKinds are numbers that no kind has.
func noKinds() []int {
	return []int{-1, -2, -7, -16, -10, 7, 8, 9, 14, 15, 16, 17, 22, 32, 1 << 20, -1 << 32, 1 << 32, -1 << 60, 1 << 60, math.MinInt, math.MinInt + 1, math.MaxInt - 1, math.MaxInt}
}

func TestP14_1MayNot(t *testing.T) {
	for _, x := range bads() {
		if why := whyNot(x.e); len(why) != 1 || why[0] != x.why {
			t.Fatalf("%v breaks %v, not %s", x.e, why, x.why)
		}
		wantMay(t, x.e, false)
	}
}

// All events of small numbers, of all kinds and some that are none, with and without a policy.
func TestP14_1MaySmallAll(t *testing.T) {
	for _, p := range []api.Policy{{}, {Quota: 1, Idle: 1}, {Pair: true}} {
		for kind := -1; kind <= 17; kind++ {
			for a := -1; a <= 33; a++ {
				for b := -1; b <= 6; b++ {
					for c := -1; c <= 9; c++ {
						e := api.Event{Kind: kind, A: a, B: b, C: c, P: p}
						wantMay(t, e, otherMay(e))
					}
				}
			}
		}
	}
}

// Of every event that may be, one number is made another one, or Pair is turned.
func TestP14_1MayOfOneChange(t *testing.T) {
	for _, e := range goods() {
		turned := with(e, func(e *api.Event) { e.P.Pair = !e.P.Pair })
		wantMay(t, turned, otherMay(turned))
		for i := range places(&e) {
			for _, n := range edges() {
				x := e
				*places(&x)[i] = n
				wantMay(t, x, otherMay(x))
			}
		}
	}
}

func TestP14_1Same(t *testing.T) {
	wantSame(t, nil, nil, true)
	wantSame(t, nil, []api.Event{}, true)
	for _, x := range anyRuns(1, 60) {
		wantSame(t, x.l, slices.Clone(x.l), true)
	}
	for _, x := range bads() {
		wantSame(t, list(x.e), list(x.e), true)
	}
}

// Lists that differ in one part of one event, in their lengths, or in their order, whether the events may be or not.
func TestP14_1SameNot(t *testing.T) {
	l := middles()
	for k, e := range l {
		for i := range places(&e) {
			for _, n := range edges() {
				other := slices.Clone(l)
				*places(&other[k])[i] = n
				wantSame(t, l, other, *places(&e)[i] == n)
			}
		}
		other := slices.Clone(l)
		other[k].P.Pair = !other[k].P.Pair
		wantSame(t, l, other, false)
		wantSame(t, l, l[:k], false)
		wantSame(t, l, l[k+1:], false)
		wantSame(t, l, slices.Delete(slices.Clone(l), k, k+1), false)
		wantSame(t, l, slices.Insert(slices.Clone(l), k, e), false)
		wantSame(t, nil, list(e), false)
		if k > 0 {
			other = slices.Clone(l)
			other[k], other[k-1] = other[k-1], other[k]
			wantSame(t, l, other, false)
		}
	}
	wantSame(t, list(api.Event{}), nil, false)
	wantSame(t, list(api.Event{}), list(api.Event{}, api.Event{}), false)
}

// Of all these lists no two are the same, but where all parts are.
func TestP14_1SameEachWithEach(t *testing.T) {
	var l [][]api.Event
	for _, e := range goods() {
		l = append(l, list(e))
	}
	for _, x := range bads() {
		l = append(l, list(x.e))
	}
	for _, a := range l {
		for _, b := range l {
			if event.Same(a, b) != slices.Equal(a, b) {
				t.Fatalf("Same(%v, %v): not %t", a, b, slices.Equal(a, b))
			}
		}
	}
}

// known are events and their bytes, worked out by hand from the document's words.
func known() []struct {
	at int
	l  []api.Event
	b  []byte
} {
	return []struct {
		at int
		l  []api.Event
		b  []byte
	}{
		{0, nil, nil},
		{7, []api.Event{}, nil},
		{top, nil, nil},
		{5, list(grant(7, 2, 1, 3)), []byte{32, 75}},
		{0, list(grant(0, 0, 0, 0)), []byte{0, 0}},
		{0, list(grant(0, 0, 0, 7)), []byte{0, 7}},
		{0, list(grant(0, 0, 1, 0)), []byte{0, 8}},
		{0, list(grant(0, 1, 0, 0)), []byte{0, 32}},
		{0, list(grant(0, 3, 3, 7)), []byte{0, 127}},
		{0, list(grant(0, 4, 0, 0)), []byte{0, 128, 1}},
		{0, list(grant(0, 31, 3, 7)), []byte{0, 255, 7}},
		{0, list(free(0, 0, 0, 0)), []byte{1, 0}},
		{0, list(free(0, 31, 3, 7)), []byte{1, 255, 7}},
		{0, list(add(0, 0, 1)), []byte{2, 1}},
		{0, list(add(0, 0, 4)), []byte{2, 4}},
		{0, list(add(0, 3, 1)), []byte{2, 25}},
		{0, list(add(0, 3, 4)), []byte{2, 28}},
		{0, list(drain(0, 0)), []byte{3, 0}},
		{0, list(drain(0, 2)), []byte{3, 2}},
		{0, list(size(0, 0, 1)), []byte{4, 1}},
		{0, list(size(0, 2, 4)), []byte{4, 20}},
		{0, list(gone(0, 0)), []byte{5, 0}},
		{0, list(gone(0, 2)), []byte{5, 2}},
		{0, list(policy(0, 1, 1, 0, false)), []byte{6, 1, 1, 0, 0}},
		{0, list(policy(0, 1, 1, 0, true)), []byte{6, 1, 1, 0, 1}},
		{0, list(policy(0, 8, 1<<20, 1<<20, true)), []byte{6, 8, 128, 128, 64, 128, 128, 64, 1}},
		{3, list(policy(11, 3, 300, 128, false)), []byte{134, 1, 3, 172, 2, 128, 1, 0}},
		{0, list(grant(1, 0, 0, 0)), []byte{16, 0}},
		{0, list(grant(7, 0, 0, 0)), []byte{112, 0}},
		{0, list(grant(8, 0, 0, 0)), []byte{128, 1, 0}},
		{0, list(grant(top, 0, 0, 0)), []byte{128, 128, 128, 128, 64, 0}},
		{0, list(free(top, 31, 3, 7)), []byte{129, 128, 128, 128, 64, 255, 7}},
		{top, list(grant(top, 0, 0, 0)), []byte{0, 0}},
		{top - 1, list(free(top, 0, 0, 1)), []byte{17, 1}},
		{100, list(grant(100, 0, 0, 0)), []byte{0, 0}},
		{5, list(grant(7, 2, 1, 3), free(7, 2, 1, 3), gone(8, 2)), []byte{32, 75, 1, 75, 21, 2}},
		{0, list(add(0, 0, 4), policy(1, 2, 9, 5, true), size(3, 0, 2), drain(3, 0)), []byte{2, 4, 22, 2, 9, 5, 1, 36, 2, 3, 0}},
	}
}

func TestP14_2PutKnown(t *testing.T) {
	for _, x := range known() {
		wantPut(t, x.at, x.l, x.b)
	}
}

// Each event that may be is put, from each tick up to its own.
func TestP14_2PutOne(t *testing.T) {
	for _, e := range goods() {
		for _, at := range []int{0, 1, 6, 7, 8, 9, 699, 700, 701, top - 1, top, e.At} {
			wantAsOtherPut(t, at, list(e))
			wantAsOtherRead(t, at, bytesOf(append([]int{16*(e.At-min(at, e.At)) + e.Kind}, otherNumbers(e)...)...))
		}
	}
}

// notTicks are numbers that are no ticks.
func notTicks() []int {
	return []int{-1, -2, -16, -1 << 32, -1 << 60, math.MinInt, math.MinInt + 1, math.MinInt + top, top + 1, top + 2, 1 << 31, 1 << 32, 1 << 60, math.MaxInt - top, math.MaxInt - 1, math.MaxInt}
}

func TestP14_2PutFromNoTick(t *testing.T) {
	for _, at := range notTicks() {
		wantNotPut(t, at, nil)
		wantNotPut(t, at, []api.Event{})
		for _, tick := range []int{0, 1, top - 1, top, at, at + 1, at - 1, -at} {
			wantNotPut(t, at, list(grant(tick, 0, 0, 0)))
			wantNotPut(t, at, list(grant(tick, 0, 0, 0), grant(top, 0, 0, 0)))
		}
	}
}

// An event that may not be is not put, wherever it stands.
func TestP14_2PutWhatMayNotBe(t *testing.T) {
	for _, x := range bads() {
		for _, at := range []int{0, 700, top} {
			wantNotPut(t, at, list(x.e))
		}
		wantNotPut(t, 0, list(x.e, grant(top, 1, 1, 1)))
		wantNotPut(t, 0, list(grant(0, 1, 1, 1), x.e))
		wantNotPut(t, 0, list(grant(0, 1, 1, 1), x.e, grant(top, 1, 1, 1)))
	}
}

// Events are put if each is at the tick of the one ahead, or behind it, and the first one at that from which on they are, or behind it.
func TestP14_2PutInOrder(t *testing.T) {
	for _, a := range middles() {
		for _, b := range middles() {
			for _, tick := range []int{1, 5, 1 << 20, top - 1} {
				a.At, b.At = tick, tick
				same := list(a, b)
				b.At++
				behind := list(a, b)
				a.At, b.At = tick, tick-1
				ahead := list(a, b)
				for _, at := range []int{0, tick - 1, tick} {
					wantAsOtherPut(t, at, same)
					wantAsOtherPut(t, at, behind)
					wantNotPut(t, at, ahead)
				}
				for _, at := range []int{tick + 1, top} {
					wantNotPut(t, at, same)
					wantNotPut(t, at, behind)
					wantNotPut(t, at, behind[:1])
				}
			}
		}
	}
	wantNotPut(t, 0, list(grant(1, 0, 0, 0), grant(9, 0, 0, 0), grant(8, 0, 0, 0), grant(9, 0, 0, 0)))
	wantNotPut(t, 0, list(grant(top, 0, 0, 0), grant(0, 0, 0, 0)))
	wantNotPut(t, 1, list(grant(0, 0, 0, 0)))
	wantNotPut(t, top, list(grant(0, 0, 0, 0)))
}

// fits are how many events of five numbers, and of two, have 400 numbers, or one, or a whole event, less.
func fits() [][2]int {
	return [][2]int{{0, 200}, {80, 0}, {40, 100}, {2, 195}, {78, 5}, {1, 197}, {79, 2}, {0, 199}, {79, 0}}
}

// overs are how many have more: 401, an event more, and far more.
func overs() [][2]int {
	return [][2]int{{1, 198}, {79, 3}, {41, 98}, {0, 201}, {81, 0}, {40, 101}, {80, 1}, {2, 196}, {0, 400}, {0, 401}, {0, 20000}, {400, 0}}
}

// At most 400 numbers are put: an event has two, or five.
func TestP14_2PutMany(t *testing.T) {
	for _, x := range fits() {
		l := mixed(x[0], x[1])
		if len(l) != x[0]+x[1] {
			t.Fatalf("%v: %d events", x, len(l))
		}
		wantPut(t, 10, l, oneByOne(10, l))
	}
	for _, x := range overs() {
		wantNotPut(t, 10, mixed(x[0], x[1]))
	}
	wantPut(t, 0, make([]api.Event, 200), make([]byte, 400))
	wantNotPut(t, 0, make([]api.Event, 201))
}

// Runs of all kinds, and what one change, or two events that change places, make of them.
func TestP14_2PutAny(t *testing.T) {
	chance := rand.New(rand.NewSource(2))
	for _, x := range anyRuns(3, 400) {
		wantAsOtherPut(t, x.at, x.l)
		for range 20 {
			l, at := slices.Clone(x.l), x.at
			switch n := edges()[chance.Intn(len(edges()))]; {
			case len(l) == 0 || chance.Intn(9) == 0:
				at = n
			case chance.Intn(9) == 0:
				i, k := chance.Intn(len(l)), chance.Intn(len(l))
				l[i], l[k] = l[k], l[i]
			default:
				all := places(&l[chance.Intn(len(l))])
				*all[chance.Intn(len(all))] = n
			}
			wantAsOtherPut(t, at, l)
		}
	}
}

func TestP14_2ReadKnown(t *testing.T) {
	for _, x := range known() {
		wantRead(t, x.at, x.b, x.l)
	}
	wantRead(t, 100, []byte{32, 75}, list(grant(102, 2, 1, 3)))
	wantRead(t, 0, []byte{}, nil)
}

// nones are bytes of which there are no events, from any tick on.
func nones() [][]byte {
	return [][]byte{
		// no numbers
		{128}, {255, 255}, {128, 0}, {0, 128}, {0, 128, 0}, {32, 75, 128}, {32, 203, 0}, {160, 0, 75}, {129, 128, 128, 128, 128, 32, 0}, {0, 129, 128, 128, 128, 128, 32},
		{128, 128, 128, 128, 128, 128, 1, 0}, {6, 1, 1, 0, 128}, {6, 1, 1, 0, 129, 0}, {6, 1, 129, 0, 0, 0},
		// kinds that are none
		{7}, {8}, {15}, {7, 0}, {8, 0}, {9, 1}, {10, 1}, {11, 0}, {12, 1}, {13, 0}, {14, 0}, {15, 0}, {23, 0}, {31, 0}, {7, 1, 1, 0, 0}, {8, 1, 1, 0, 0}, {135, 1, 0}, {7, 0, 0}, {15, 0, 0}, {7, 0, 0, 0}, {0, 0, 7, 0}, {7, 0, 0, 0, 0, 0},
		// a number too few
		{0}, {1}, {2}, {3}, {4}, {5}, {6}, {32}, {0, 0, 0}, {0, 0, 3}, {3, 0, 3}, {3, 0, 5}, {5, 0, 3}, {6, 1}, {6, 1, 1}, {6, 1, 1, 0}, {6, 8, 128, 128, 64, 0}, {3, 0, 6, 1, 1, 0}, {128, 1},
		// a number too many
		{0, 0, 8, 1, 1}, {3, 0, 7}, {6, 1, 1, 0, 0, 7}, {6, 1, 1, 0, 1, 1},
		// numbers that no event of the kind has: of a grant and a release above 1023
		{0, 128, 8}, {1, 128, 8}, {0, 129, 8}, {0, 255, 127}, {0, 128, 128, 128, 128, 128, 32}, {1, 128, 128, 128, 128, 128, 32},
		// of how many addresses 0, 5, 6 and 7, and of an A too great
		{2, 0}, {2, 5}, {2, 6}, {2, 7}, {2, 8}, {2, 13}, {2, 16}, {2, 24}, {2, 29}, {2, 31}, {2, 32}, {2, 33}, {2, 36}, {2, 128, 128, 128, 128, 128, 32},
		{4, 0}, {4, 5}, {4, 6}, {4, 7}, {4, 8}, {4, 13}, {4, 16}, {4, 21}, {4, 23}, {4, 24}, {4, 25}, {4, 28}, {4, 33}, {4, 129, 128, 128, 128, 128, 16},
		// of a pool's place 3 and above
		{3, 3}, {3, 4}, {3, 8}, {3, 127}, {3, 128, 1}, {3, 128, 128, 128, 128, 128, 32}, {5, 3}, {5, 4}, {5, 8}, {5, 127}, {5, 128, 1}, {5, 128, 128, 128, 128, 128, 32},
		// of a policy: Quota 0 and 9, Idle 0 and 2^20 and 1, Hold 2^20 and 1, Pair 2 and above
		{6, 0, 1, 0, 0}, {6, 9, 1, 0, 0}, {6, 1, 0, 0, 0}, {6, 1, 129, 128, 64, 0, 0}, {6, 1, 1, 129, 128, 64, 0}, {6, 1, 1, 0, 2}, {6, 1, 1, 0, 3}, {6, 1, 1, 0, 127}, {6, 1, 1, 0, 129, 1},
		{6, 128, 128, 128, 128, 128, 32, 1, 0, 0}, {6, 1, 128, 128, 128, 128, 128, 32, 0, 0}, {6, 1, 1, 128, 128, 128, 128, 128, 32, 0}, {6, 1, 1, 0, 128, 128, 128, 128, 128, 32},
		// an At above 2^30: 2^30 and 1 behind 0, and far
		{144, 128, 128, 128, 64, 0}, {145, 128, 128, 128, 64, 0}, {128, 128, 128, 128, 128, 1, 0}, {128, 128, 128, 128, 128, 32, 0}, {128, 128, 128, 128, 64, 0, 16, 0},
		bytes.Repeat([]byte{128, 128, 128, 128, 128, 32, 0}, 2), bytes.Repeat([]byte{128, 128, 128, 128, 128, 32, 0}, 200),
		// the first one, the last one, or one between, is none
		{2, 5, 0, 0}, {0, 0, 2, 5}, {0, 0, 2, 5, 0, 0}, {0, 0, 7, 0, 0, 0}, {6, 1, 1, 0, 2, 0, 0},
	}
}

func TestP14_2ReadNot(t *testing.T) {
	for _, b := range nones() {
		for _, at := range []int{0, 1, 1 << 20, top - 1, top} {
			wantNotRead(t, at, b)
			wantNotRead(t, at, append([]byte{0, 0}, b...))
		}
	}
}

// The same bytes tell events from every tick on, as long as the last one is at 2^30 at most.
func TestP14_2ReadTicks(t *testing.T) {
	for _, at := range []int{0, 1, 5, top - 1, top} {
		wantRead(t, at, nil, nil)
		wantRead(t, at, []byte{0, 0}, list(grant(at, 0, 0, 0)))
		wantRead(t, at, []byte{6, 1, 1, 0, 1, 3, 0}, list(policy(at, 1, 1, 0, true), drain(at, 0)))
	}
	for _, ahead := range []int{0, 1, 2, 7, 8, 1 << 20, top - 1, top} {
		at := top - ahead
		wantRead(t, at, bytesOf(16*ahead+1, 5), list(free(top, 0, 0, 5)))
		wantRead(t, at, bytesOf(16*ahead+1, 5, 5, 1), list(free(top, 0, 0, 5), gone(top, 1)))
		wantNotRead(t, at, bytesOf(16*ahead+16+1, 5))
		wantNotRead(t, at, bytesOf(16*ahead+1, 5, 16+5, 1))
	}
	wantNotRead(t, top, []byte{16, 0})
	wantNotRead(t, top-1, []byte{16, 0, 16, 0})
}

// From what is no tick nothing is read, not even nothing, and not what would lead to ticks.
func TestP14_2ReadFromNoTick(t *testing.T) {
	for _, at := range notTicks() {
		for _, b := range [][]byte{nil, {}, {0, 0}, {16, 0}, {32, 75}, {0, 0, 16, 0}, {128, 128, 128, 128, 64, 0}, {144, 128, 128, 128, 64, 0}, {128, 128, 128, 128, 128, 32, 0}, {6, 1, 1, 0, 0}, {128}, {7, 0}} {
			wantNotRead(t, at, b)
		}
	}
	for at := -40; at < 0; at++ {
		for tick := range 3 {
			wantNotRead(t, at, bytesOf(16*(tick-at), 0))
		}
	}
}

// oneByOne are the bytes of each event of a list, from the tick of the one ahead on, one behind the other, however many there are.
func oneByOne(at int, l []api.Event) []byte {
	var all []byte
	for _, e := range l {
		b, _ := otherPut(at, list(e))
		all = append(all, b...)
		at = e.At
	}
	return all
}

// At most 400 numbers are read; of more, that would be events, none.
func TestP14_2ReadMany(t *testing.T) {
	for _, x := range fits() {
		l := mixed(x[0], x[1])
		wantRead(t, 10, oneByOne(10, l), l)
	}
	for _, x := range overs() {
		wantNotRead(t, 10, oneByOne(10, mixed(x[0], x[1])))
	}
	wantRead(t, 0, make([]byte, 400), make([]api.Event, 200))
	wantNotRead(t, 0, make([]byte, 401))
	wantNotRead(t, 0, make([]byte, 402))
	wantNotRead(t, 0, make([]byte, 100000))
	// 401 numbers: one event of five, and 198 of two.
	wantNotRead(t, 0, append([]byte{6, 1, 1, 0, 0}, make([]byte, 396)...))
	wantRead(t, 0, append([]byte{6, 1, 1, 0, 0}, make([]byte, 394)...), append(list(policy(0, 1, 1, 0, false)), make([]api.Event, 197)...))
}

// All bytes, up to two of them, and all of three and more of a few that matter.
func TestP14_2ReadSmallAll(t *testing.T) {
	found := 0
	for first := range 256 {
		wantAsOtherRead(t, 3, []byte{byte(first)})
		for second := range 256 {
			for _, at := range []int{0, 3, top - 1, top} {
				if wantAsOtherRead(t, at, []byte{byte(first), byte(second)}) {
					found++
				}
			}
		}
	}
	few := []byte{0, 1, 2, 3, 4, 5, 6, 7, 8, 9, 16, 22, 32, 127, 128, 129, 134, 255}
	for many := 3; many <= 4; many++ {
		for n := range int(math.Pow(float64(len(few)), float64(many))) {
			var b []byte
			for range many {
				b = append(b, few[n%len(few)])
				n /= len(few)
			}
			if wantAsOtherRead(t, top-5, b) {
				found++
			}
		}
	}
	if found < 5000 {
		t.Fatalf("only %d of the bytes were some events'", found)
	}
}

// Every number, of every kind, up to far above what events have.
func TestP14_2ReadAllNumbers(t *testing.T) {
	for kind := range 16 {
		for n := range 3000 {
			wantAsOtherRead(t, 7, bytesOf(16+kind, n))
			wantAsOtherRead(t, 7, bytesOf(16*n+kind, 1))
		}
		for i := range 41 {
			for _, n := range []int{1<<i - 1, 1 << i, 1<<i + 1} {
				wantAsOtherRead(t, 7, bytesOf(16+kind, n))
				wantAsOtherRead(t, 7, bytesOf(n, 1))
			}
		}
	}
	for _, n := range edges() {
		if n >= 0 {
			for _, p := range [][4]int{{n, 1, 0, 0}, {1, n, 0, 0}, {1, 1, n, 0}, {1, 1, 0, n}} {
				wantAsOtherRead(t, 7, bytesOf(6, p[0], p[1], p[2], p[3]))
			}
		}
	}
}

// anyBytes are bytes of chances of a seed: of runs, changed in a place or two, and of none.
func anyBytes(seed int64, many int) [][]byte {
	chance := rand.New(rand.NewSource(seed))
	few := []byte{0, 1, 2, 3, 4, 5, 6, 7, 8, 15, 16, 17, 18, 32, 64, 127, 128, 129, 130, 134, 255}
	var all [][]byte
	for _, x := range anyRuns(seed, many) {
		b, _ := event.Put(x.at, x.l)
		for range chance.Intn(3) {
			i, c := chance.Intn(len(b)+1), few[chance.Intn(len(few))]
			switch {
			case i == len(b) || chance.Intn(3) == 0:
				b = slices.Insert(b, i, c)
			case chance.Intn(2) == 0:
				b = slices.Delete(b, i, i+1)
			default:
				b[i] = c
			}
		}
		all = append(all, b)
		b = nil
		for range chance.Intn(9) {
			b = append(b, few[chance.Intn(len(few))])
		}
		all = append(all, b)
	}
	return all
}

func TestP14_2ReadAny(t *testing.T) {
	found, none := 0, 0
	for _, b := range anyBytes(4, 5000) {
		for _, at := range []int{0, 3, 1 << 29, top} {
			if wantAsOtherRead(t, at, b) {
				found++
			} else {
				none++
			}
		}
	}
	if found < 2000 || none < 2000 {
		t.Fatalf("%d of the bytes were some events', %d not", found, none)
	}
}

func TestP14_3PutIsRead(t *testing.T) {
	for _, x := range anyRuns(5, 1000) {
		b, is := event.Put(x.at, x.l)
		if !is {
			t.Fatalf("Put(%d, %v): none", x.at, x.l)
		}
		wantRead(t, x.at, b, x.l)
		if l, _ := event.Read(x.at, b); !event.Same(l, x.l) {
			t.Fatalf("Same(%v, %v): not true", l, x.l)
		}
		// From another tick on the same bytes tell the same events, at other ticks.
		if x.at > 0 {
			moved := slices.Clone(x.l)
			for i := range moved {
				moved[i].At -= x.at
			}
			wantRead(t, 0, b, moved)
		}
	}
}

// Whatever bytes are read: all events may be, and go on from the tick, and are put as the same bytes.
func TestP14_3ReadIsPut(t *testing.T) {
	read := 0
	for _, b := range anyBytes(6, 5000) {
		for _, at := range []int{0, 9, top - 1} {
			l, is := event.Read(at, b)
			if !is {
				continue
			}
			read++
			tick := at
			for _, e := range l {
				wantMay(t, e, true)
				if e.At < tick {
					t.Fatalf("Read(%d, %v): %v", at, b, l)
				}
				tick = e.At
			}
			if again, is := event.Put(at, l); !is || !bytes.Equal(again, b) {
				t.Fatalf("Put(%d, %v): %v, %t, not %v", at, l, again, is, b)
			}
		}
	}
	if read < 2000 {
		t.Fatalf("only %d of the bytes were some events'", read)
	}
}

// Bytes that are cut off are events just if they are cut behind one: then they are those up to there.
func TestP14_3CutOff(t *testing.T) {
	for _, x := range append(anyRuns(7, 300), run{10, mixed(80, 0)}, run{10, mixed(40, 100)}, run{0, list(free(top, 31, 3, 7), policy(top, 8, 1<<20, 1<<20, true))}) {
		b, _ := event.Put(x.at, x.l)
		ends := x.ends(t)
		for cut := range len(b) + 1 {
			if k := slices.Index(ends, cut); k >= 0 {
				wantRead(t, x.at, b[:cut], x.l[:k])
			} else {
				wantNotRead(t, x.at, b[:cut])
			}
		}
	}
}

// The bytes of events are those of the first ones, and of the others from where these end.
func TestP14_3OneBehindTheOther(t *testing.T) {
	for _, x := range anyRuns(8, 400) {
		all, _ := event.Put(x.at, x.l)
		for k := range len(x.l) + 1 {
			at := x.at
			if k > 0 {
				at = x.l[k-1].At
			}
			first, _ := event.Put(x.at, x.l[:k])
			others, is := event.Put(at, x.l[k:])
			if !is || !bytes.Equal(slices.Concat(first, others), all) {
				t.Fatalf("Put(%d, %v): %v, not %v and %v", x.at, x.l, all, first, others)
			}
			wantRead(t, at, others, x.l[k:])
		}
	}
}

// A grant, or a release, takes at most 7 bytes, from whatever tick on, and is read of these alone.
func TestP14_3AtMost7(t *testing.T) {
	most := 0
	for sub := range 32 {
		for addr := range 4 {
			for blk := range 8 {
				for _, at := range []int{0, 1, 7, 8, 1023, 1024, 1 << 17, 1 << 24, top - 1, top} {
					for _, e := range list(grant(at, sub, addr, blk), free(at, sub, addr, blk)) {
						b, is := event.Put(0, list(e))
						if !is || len(b) < 2 || len(b) > 7 {
							t.Fatalf("Put(0, %v): %v, %t", e, b, is)
						}
						wantRead(t, 0, b, list(e))
						most = max(most, len(b))
						if b, is = event.Put(at, list(e)); !is || len(b) > 3 {
							t.Fatalf("Put(%d, %v): %v, %t", at, e, b, is)
						}
					}
				}
			}
		}
	}
	if most != 7 {
		t.Fatalf("the most were %d", most)
	}
}

// What package alloc tells of what it did are events that may be, and that go on from the tick at which it was asked.
func TestP14_3OfAlloc(t *testing.T) {
	d := api.Det{In: api.Prefix{Base: 10 << 24, Bits: 27}, Out: api.Prefix{Base: 11 << 24, Bits: 30}, Lo: 1000, Hi: 1999, Dyn: 80, Block: 10}
	s, is := alloc.New(d, api.Policy{Quota: 8, Idle: 20, Hold: 5})
	if !is {
		t.Fatal("no state")
	}
	chance := rand.New(rand.NewSource(12))
	told := map[int]int{}
	for range 3000 {
		r := api.Req{Kind: chance.Intn(api.RqWho), Sub: chance.Intn(32), Addr: chance.Intn(4), Blk: chance.Intn(8), N: chance.Intn(5)}
		switch r.Kind {
		case api.RqTick:
			r.N = s.Now + chance.Intn(30)
		case api.RqPolicy:
			r.P = api.Policy{Quota: 1 + chance.Intn(8), Idle: 10 + chance.Intn(20), Hold: chance.Intn(9), Pair: chance.Intn(4) == 0}
		}
		then, l, _ := alloc.Do(s, r)
		b, is := event.Put(s.Now, l)
		if !is {
			t.Fatalf("Put(%d, %v): none", s.Now, l)
		}
		wantRead(t, s.Now, b, l)
		for _, e := range l {
			told[e.Kind]++
		}
		s = then
	}
	if len(told) != api.EvKinds {
		t.Fatalf("not all kinds were told: %v", told)
	}
}

// roomy is a list with room behind it, and the whole of that memory.
func roomy[T any](l []T, filler T) (list, all []T) {
	all = append(slices.Clone(l), slices.Repeat([]T{filler}, 5)...)
	return all[:len(l)], all
}

// spoil overwrites a list, and the room behind it.
func spoil[T any](l []T, filler T) {
	l = l[:cap(l)]
	for i := range l {
		l[i] = filler
	}
}

// Calls change nothing of what is handed in, nor of what stands behind it; nor do changes to what they answer.
func TestR3HandedInStays(t *testing.T) {
	runs := append(anyRuns(9, 200), run{10, mixed(40, 100)}, run{10, mixed(40, 101)})
	for _, x := range bads() {
		runs = append(runs, run{0, list(grant(0, 0, 0, 0), x.e)})
	}
	for _, x := range runs {
		l, all := roomy(x.l, api.Event{Kind: -7})
		was := slices.Clone(all)
		event.Same(l, l)
		b, _ := event.Put(x.at, l)
		_ = append(b, 9)
		spoil(b, 9)
		if !slices.Equal(all, was) {
			t.Fatalf("Put(%d, %v): %v", x.at, x.l, all)
		}
	}
	for _, x := range append(anyBytes(10, 200), nones()...) {
		b, all := roomy(x, 200)
		was := slices.Clone(all)
		l, _ := event.Read(3, b)
		_ = append(l, api.Event{Kind: -8})
		spoil(l, api.Event{Kind: -9})
		if !bytes.Equal(all, was) {
			t.Fatalf("Read(3, %v): %v", x, all)
		}
	}
}

// What is answered is the caller's own: changes to what was handed in, or to another answer, change nothing of it.
func TestR3AnswersAreTheCallersOwn(t *testing.T) {
	for _, x := range append(anyRuns(11, 200), run{10, mixed(40, 100)}) {
		want, _ := otherPut(x.at, x.l)
		l, all := roomy(x.l, api.Event{Kind: -7})
		b, _ := event.Put(x.at, l)
		other, _ := event.Put(x.at, l)
		spoil(all, api.Event{Kind: -9})
		spoil(other, 9)
		if !bytes.Equal(b, want) {
			t.Fatalf("Put(%d, %v): %v, not %v", x.at, x.l, b, want)
		}
		got, _ := event.Read(x.at, b)
		again, _ := event.Read(x.at, b)
		spoil(b, 9)
		spoil(again, api.Event{Kind: -9})
		if !slices.Equal(got, x.l) {
			t.Fatalf("Read(%d, %v): %v, not %v", x.at, want, got, x.l)
		}
	}
}

// No call hangs on the ones ahead.
func TestR5NothingIsKept(t *testing.T) {
	for range 3 {
		for _, x := range known() {
			wantPut(t, x.at, x.l, x.b)
			wantNotPut(t, -1, x.l)
			wantNotRead(t, -1, x.b)
		}
		wantNotRead(t, 0, []byte{0, 0, 7, 0})
	}
}

// Whatever numbers calls are made with, they end, and answer by the document's words.
func TestP1AnyNumbers(t *testing.T) {
	for _, e := range append(middles(), api.Event{}, policy(top, 8, 1<<20, 1<<20, true)) {
		for i := range places(&e) {
			for _, n := range edges() {
				x := e
				*places(&x)[i] = n
				for _, at := range append([]int{0, 700, top, n, -n}, far()...) {
					wantAsOtherPut(t, at, list(x))
					wantAsOtherPut(t, at, list(e, x))
					wantAsOtherPut(t, at, list(x, e))
				}
				for k := range i {
					for _, m := range far() {
						*places(&x)[k] = m
						wantMay(t, x, otherMay(x))
						for _, at := range []int{0, n, m} {
							wantAsOtherPut(t, at, list(x))
						}
						*places(&x)[k] = *places(&e)[k]
					}
				}
			}
		}
	}
	for _, at := range append(edges(), far()...) {
		for _, b := range nones() {
			wantNotRead(t, at, b)
		}
		for _, x := range known() {
			wantAsOtherRead(t, at, x.b)
			wantAsOtherPut(t, at, x.l)
		}
	}
}

// The document's example: from tick 5 on a grant at 7 of block 3 of address 1 to subscriber 2.
func TestExample(t *testing.T) {
	wantPut(t, 5, list(grant(7, 2, 1, 3)), []byte{32, 75})
}
