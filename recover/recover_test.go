package recover_test

import (
	"bytes"
	"hash/crc32"
	"math"
	"math/bits"
	"math/rand"
	"slices"
	"testing"

	"moorings/addr"
	"moorings/alloc"
	"moorings/api"
	"moorings/disk"
	"moorings/event"
	"moorings/recover"
	"moorings/state"
	"moorings/wal"
)

const (
	// top is the greatest tick, and the greatest number of a file.
	top = 1 << 30
	// long is the longest wait.
	long = 1 << 20
)

// mapping has subscribers, and public addresses, by prefixes of so many bits, and of each address n blocks of 10 ports.
func mapping(in, out, n int) api.Det {
	return api.Det{In: api.Prefix{Base: 10 << 24, Bits: in}, Out: api.Prefix{Base: 11 << 24, Bits: out}, Lo: 1000, Hi: 1999, Dyn: 10*n + 3, Block: 10}
}

// plain is a state of nothing, at a tick.
func plain(now int) api.State {
	return api.State{D: mapping(30, 31, 3), P: api.Policy{Quota: 2, Idle: 10, Hold: 5}, Now: now}
}

// some is a settled state of all that there can be.
func some() api.State {
	s := plain(20)
	s.Pools = []api.Pool{{From: 0, N: 1, St: api.Active}, {From: 1, N: 1, St: api.Drains}}
	s.L = []api.Lease{{Sub: 0, Addr: 0, Blk: 1, From: 2, Last: 20}, {Sub: 3, Addr: 1, Blk: 0, From: 20, Last: 20}, {Sub: 2, Addr: 1, Blk: 1, From: 0, Last: 20}}
	s.H = []api.Held{{Addr: 0, Blk: 0, Till: 21}, {Addr: 1, Blk: 2, Till: 20 + long}}
	return s
}

// full is a settled state of 32 leases, at the last tick.
func full() api.State {
	s := api.State{D: mapping(27, 30, 8), P: api.Policy{Quota: 1, Idle: long, Hold: long, Pair: true}, Now: top}
	s.Pools = []api.Pool{{From: 0, N: 2}, {From: 3, N: 1, St: api.Drains}, {From: 2, N: 1}}
	for sub := range 32 {
		s.L = append(s.L, api.Lease{Sub: sub, Addr: sub / 8, Blk: sub % 8, From: sub % 2 * (top - sub), Last: top})
	}
	return s
}

// states are settled states.
func states() []api.State {
	return []api.State{plain(0), plain(1), plain(2000), plain(top), some(), full()}
}

func grant(at, sub, addr, blk int) api.Event {
	return api.Event{Kind: api.EvGrant, At: at, A: sub, B: addr, C: blk}
}

func free(at, sub, addr, blk int) api.Event {
	return api.Event{Kind: api.EvFree, At: at, A: sub, B: addr, C: blk}
}

func add(at, from, n int) api.Event { return api.Event{Kind: api.EvAdd, At: at, A: from, B: n} }
func drain(at, k int) api.Event     { return api.Event{Kind: api.EvDrain, At: at, A: k} }
func size(at, k, n int) api.Event   { return api.Event{Kind: api.EvSize, At: at, A: k, B: n} }
func gone(at, k int) api.Event      { return api.Event{Kind: api.EvGone, At: at, A: k} }

func policy(at, quota, idle, hold int, pair bool) api.Event {
	return api.Event{Kind: api.EvPolicy, At: at, P: api.Policy{Quota: quota, Idle: idle, Hold: hold, Pair: pair}}
}

// same is the event by which a state's policy becomes what it is.
func same(s api.State) api.Event {
	return api.Event{Kind: api.EvPolicy, At: s.Now, P: s.P}
}

// list is a list of those.
func list(l ...api.Event) []api.Event { return l }

// bytesOf are the bytes of a number.
func bytesOf(n int) []byte {
	var b []byte
	for ; n > 127; n >>= 7 {
		b = append(b, byte(n&127|128))
	}
	return append(b, byte(n))
}

// sealed are bytes, and their sum by another way: by the library's sums, which take each byte's lowest bit first.
func sealed(parts ...[]byte) []byte {
	b := slices.Concat(parts...)
	turned := make([]byte, len(b))
	for i := range b {
		turned[i] = bits.Reverse8(b[i])
	}
	sum := bits.Reverse32(crc32.ChecksumIEEE(turned))
	return append(b, byte(sum>>24), byte(sum>>16), byte(sum>>8), byte(sum))
}

// record are the bytes of a record, by another way than rec's.
func record(kind int, body []byte) []byte {
	return sealed([]byte{byte(kind)}, bytesOf(len(body)), body)
}

// begins are the bytes by which a file begins by a state.
func begins(s api.State) []byte {
	body, is := state.Put(s)
	if !is {
		panic("no state's bytes")
	}
	return record(1, body)
}

// bodyOf are the bytes of events from a tick on.
func bodyOf(now int, l ...api.Event) []byte {
	body, is := event.Put(now, l)
	if !is {
		panic("no events' bytes")
	}
	return body
}

// goesOn are the bytes by which a file goes on by events from a tick on.
func goesOn(now int, l ...api.Event) []byte { return record(2, bodyOf(now, l...)) }

// story is a file, record by record: what each is, and what the file tells behind it.
type story struct {
	records [][]byte
	ends    []int
	events  [][]api.Event
	states  []api.State
}

// tell is the story of a state, and of lists of events that can be, a record each; one of none is a record of no body.
func tell(s api.State, lists ...[]api.Event) story {
	x := story{records: [][]byte{begins(s)}, events: [][]api.Event{nil}, states: []api.State{s}}
	x.ends = []int{len(x.records[0])}
	now := s.Now
	for _, l := range lists {
		b := goesOn(now, l...)
		for _, e := range l {
			var no api.Errno
			if s, no = state.Apply(s, e); no != api.OK {
				panic("an event that can't be")
			}
			now = e.At
		}
		last := len(x.ends) - 1
		x.records, x.ends = append(x.records, b), append(x.ends, x.ends[last]+len(b))
		x.events, x.states = append(x.events, slices.Concat(x.events[last], l)), append(x.states, s)
	}
	return x
}

// bytes are all bytes of a story.
func (x story) bytes() []byte { return slices.Concat(x.records...) }

// last is the state to which a story comes.
func (x story) last() api.State { return x.states[len(x.states)-1] }

// short is a story of a few records of few events.
func short() story {
	return tell(plain(3), list(add(3, 0, 2), grant(4, 1, 0, 0)), list(grant(7, 2, 0, 1)), nil, list(free(9, 1, 0, 0), policy(9, 3, 9, 9, false)))
}

// stories are many: of no events, of one record, of several, and of all kinds of events.
func stories() []story {
	var all []story
	for _, s := range states() {
		all = append(all, tell(s), tell(s, nil), tell(s, nil, nil, nil), tell(s, list(policy(s.Now, 8, long, 0, s.P.Pair))))
	}
	most := list(add(5, 0, 1), grant(5, 0, 0, 0), free(5, 0, 0, 0))
	for range 99 {
		most = append(most, grant(5, 0, 0, 1), free(5, 0, 0, 1))
	}
	noHold := policy(5, 1, 1, 0, false)
	all = append(all, short(),
		tell(some(), list(drain(20, 0)), list(free(21, 0, 0, 1), free(21, 3, 1, 0), free(22, 2, 1, 1)), list(gone(22, 1), gone(22, 0), add(40, 1, 1), add(40, 0, 1), size(40, 1, 1))),
		tell(plain(0), list(add(0, 0, 1)), list(size(1, 0, 2)), list(size(2, 0, 1)), list(drain(3, 0)), list(gone(top, 0)), nil, list(add(top, 0, 2))),
		tell(plain(5), list(noHold), most[:200], list(grant(5, 2, 0, 2)), list(free(6, 2, 0, 2))),
		tell(plain(0), nil, list(add(0, 1, 1)), nil, nil, list(grant(top-1, 3, 1, 2)), nil, list(free(top, 3, 1, 2)), nil))
	return append(all, met()...)
}

// met are stories that are met by asking alloc at random.
func met() []story {
	var all []story
	for seed, d := range []api.Det{mapping(30, 31, 3), mapping(27, 30, 8), mapping(31, 32, 2), mapping(30, 32, 0)} {
		chance := rand.New(rand.NewSource(int64(seed)))
		s := api.State{D: d, P: api.Policy{Quota: 3, Idle: 9, Hold: 4}, Pools: []api.Pool{{From: 0, N: addr.Size(d.Out)}}}
		for range 12 {
			from := settled(s)
			var lists [][]api.Event
			for range 20 {
				var l []api.Event
				if s, l, _ = alloc.Do(s, anyReq(chance, s)); len(l) > 0 {
					lists = append(lists, l)
				}
			}
			all = append(all, tell(from, lists...))
		}
	}
	return all
}

// anyReq is a request at random, that often can be done.
func anyReq(chance *rand.Rand, s api.State) api.Req {
	r := api.Req{Kind: chance.Intn(9), Sub: chance.Intn(addr.Size(s.D.In)), Addr: chance.Intn(addr.Size(s.D.Out)), Blk: chance.Intn(8), N: chance.Intn(4)}
	switch chance.Intn(4) {
	case 0, 1:
		r.Kind = api.RqGrant
	case 2:
		r.Kind = api.RqTick
	}
	if len(s.L) > 0 && (r.Kind == api.RqRefresh || r.Kind == api.RqRelease) {
		x := s.L[chance.Intn(len(s.L))]
		r.Sub, r.Addr, r.Blk = x.Sub, x.Addr, x.Blk
	}
	if r.Kind == api.RqTick {
		r.N = s.Now + chance.Intn(5)
	}
	if r.Kind == api.RqPolicy {
		r.P = api.Policy{Quota: 1 + chance.Intn(8), Idle: 1 + chance.Intn(12), Hold: chance.Intn(6)}
	}
	return r
}

// settled is a state as if all were used at its tick.
func settled(s api.State) api.State {
	s, _ = state.Settle(s, s.Now)
	return s
}

// isSameState tells whether two states are the same.
func isSameState(a, b api.State) bool {
	return a.D == b.D && a.P == b.P && a.Now == b.Now && slices.Equal(a.Pools, b.Pools) && slices.Equal(a.L, b.L) && slices.Equal(a.H, b.H)
}

// isSameDisk tells whether two disks are the same, by another way than disk's.
func isSameDisk(a, b api.Disk) bool {
	if a.Cap != b.Cap || len(a.F) != len(b.F) {
		return false
	}
	for i := range a.F {
		if a.F[i].No != b.F[i].No || a.F[i].Sure != b.F[i].Sure || string(a.F[i].Data) != string(b.F[i].Data) {
			return false
		}
	}
	return true
}

// isSame tells whether two logs are the same.
func isSame(a, b api.Wal) bool { return isSameDisk(a.D, b.D) && a.No == b.No && a.Now == b.Now }

// told is what a file tells: how many of its bytes are good, whether any are, its events, the state, and the tick.
type told struct {
	n   int
	is  bool
	l   []api.Event
	s   api.State
	now int
}

// otherRecord is the record by which bytes begin, and how many of them it has, by another way than rec's; 0 if there is none.
func otherRecord(b []byte) (kind int, body []byte, n int) {
	if len(b) < 2 {
		return 0, nil, 0
	}
	// A body has at most 1000 bytes: the number of these has one byte, or two.
	count, begin := int(b[1]), 2
	if b[1] >= 128 && len(b) > 2 {
		count, begin = int(b[1])-128+128*int(b[2]), 3
	}
	if n = begin + count + 4; count > 1000 || n > len(b) {
		return 0, nil, 0
	}
	kind, body = int(b[0]), b[begin:begin+count]
	if !bytes.Equal(record(kind, body), b[:n]) {
		return 0, nil, 0
	}
	return kind, body, n
}

// otherEvents are the events of bytes, number by number, by another way than event's; each has one number behind its first one, or a policy's four.
func otherEvents(now int, body []byte) ([]api.Event, bool) {
	var numbers []int
	n, digit := 0, 0
	for _, c := range body {
		if digit > 5 {
			return nil, false
		}
		n |= int(c&127) << (7 * digit)
		if digit++; c < 128 {
			numbers = append(numbers, n)
			n, digit = 0, 0
		}
	}
	var l []api.Event
	for at := now; len(numbers) > 1; {
		at += numbers[0] / 16
		e, v, size := api.Event{Kind: numbers[0] % 16, At: at}, numbers[1], 2
		switch e.Kind {
		case 0, 1:
			e.A, e.B, e.C = v/32, v/8%4, v%8
		case 2, 4:
			e.A, e.B = v/8, v%8
		case 3, 5:
			e.A = v
		case 6:
			if size = 5; len(numbers) < size {
				return nil, false
			}
			e.P = api.Policy{Quota: v, Idle: numbers[2], Hold: numbers[3], Pair: numbers[4] == 1}
		}
		l, numbers = append(l, e), numbers[size:]
	}
	again, is := event.Put(now, l)
	return l, is && bytes.Equal(again, body)
}

// otherTold tells what bytes tell, by another way: record by record, and event by event, with the tick kept beside the state.
func otherTold(b []byte) told {
	kind, body, n := otherRecord(b)
	s, is := state.Read(body)
	if n == 0 || kind != 1 || !is {
		return told{}
	}
	x := told{n: n, is: true, s: s, now: s.Now}
	for {
		kind, body, n = otherRecord(b[x.n:])
		l, is := otherEvents(x.now, body)
		if n == 0 || kind != 2 || !is {
			return x
		}
		s, now := x.s, x.now
		for _, e := range l {
			var no api.Errno
			if s, no = state.Apply(s, e); no != api.OK {
				return x
			}
			now = e.At
		}
		x = told{n: x.n + n, is: true, l: slices.Concat(x.l, l), s: s, now: now}
	}
}

// wantTold wants of bytes what otherTold tells, and that so many of them are good; none if that is 0.
func wantTold(t *testing.T, b []byte, wantN int) {
	t.Helper()
	want := otherTold(b)
	n, is := recover.Good(b)
	s, has := recover.Last(b)
	l := recover.Events(b)
	if n != wantN || n != want.n || is != (wantN > 0) || is != want.is || has != is || !slices.Equal(l, want.l) || !isSameState(s, want.s) {
		t.Fatalf("of %v: Good %d, %t, Events %v, Last %v, %t, not %d, %v", b, n, is, l, s, has, wantN, want)
	}
}

// wantStory wants what a story tells up to its record of that place, of bytes.
func wantStory(t *testing.T, b []byte, x story, k int) {
	t.Helper()
	wantTold(t, b, x.ends[k])
	l := recover.Events(b)
	s, _ := recover.Last(b)
	if !slices.Equal(l, x.events[k]) || !isSameState(s, x.states[k]) {
		t.Fatalf("of %v: Events %v, Last %v, not %v, %v", b, l, s, x.events[k], x.states[k])
	}
}

// wantNone wants that bytes are not good.
func wantNone(t *testing.T, b []byte) {
	t.Helper()
	wantTold(t, b, 0)
	n, is := recover.Good(b)
	s, has := recover.Last(b)
	if l := recover.Events(b); n != 0 || is || has || len(l) != 0 || !isSameState(s, api.State{}) {
		t.Fatalf("of %v: Good %d, %t, Events %v, Last %v, %t", b, n, is, l, s, has)
	}
}

// A whole file is good to its end.
func TestP17_1Whole(t *testing.T) {
	for _, x := range stories() {
		wantStory(t, x.bytes(), x, len(x.ends)-1)
	}
}

// Cut off anywhere, in the midst of its state, of a record, or just behind one, a file is good up to the last whole one.
func TestP17_1EachEnd(t *testing.T) {
	for _, x := range stories() {
		b := x.bytes()
		k := -1
		for n := range len(b) + 1 {
			if k+1 < len(x.ends) && x.ends[k+1] == n {
				k++
			}
			// The other reading of each is slow: of long files only the ends around whole records are looked at.
			if len(b) > 300 && k >= 0 && n-x.ends[k] > 2 && (k+1 == len(x.ends) || x.ends[k+1]-n > 2) {
				continue
			}
			if k < 0 {
				wantNone(t, b[:n])
			} else {
				wantStory(t, b[:n], x, k)
			}
		}
	}
}

// ends are bytes behind which nothing counts, of a story that has come to the state s: none is a record by which it goes on.
func ends(s api.State) [][]byte {
	l := [][]byte{{0}, {1}, {2}, {2, 0}, {2, 0, 0, 0, 0}, {255, 255, 255}, make([]byte, 50), begins(s)}
	body := bodyOf(s.Now, same(s))
	// Of another kind.
	for kind := range 256 {
		if kind != api.RecEvents {
			l = append(l, record(kind, body), record(kind, nil))
		}
	}
	// With another sum, a length of other bytes, and one that is too great.
	for bit := range 8 * (len(body) + 6) {
		b := record(2, body)
		b[bit/8] ^= 1 << (bit % 8)
		l = append(l, b)
	}
	l = append(l, sealed([]byte{2, byte(len(body)) | 128, 0}, body), sealed([]byte{2}, bytesOf(1001), make([]byte, 1001)))
	// Bodies that are no events'.
	for n := range body {
		if n > 0 {
			l = append(l, record(2, body[:n]))
		}
	}
	for _, b := range [][]byte{{0}, {9}, {128}, {7, 0}, {15, 0}, {3, 3}, {0, 128}, {0, 128, 0}, {2, 0}, {2, 5}, {2, 33}, {255, 255, 255, 255, 255, 127}, append(slices.Clone(body), 0), append([]byte{0}, body...), make([]byte, 999), make([]byte, 1000)} {
		l = append(l, record(2, b))
	}
	for _, n := range []int{1, 5, 20, 20 + long} {
		// Behind the greatest tick there is none, and ticks below the last one can't be told: as numbers that wrap around they are none.
		l = append(l, record(2, slices.Concat(bytesOf((top-s.Now+n)*16+3), []byte{0})), record(2, slices.Concat(bytesOf(1<<40-n*16+3), []byte{0})), record(2, slices.Concat(bytesOf(1<<36-n*16+3), []byte{0})))
	}
	return l
}

// The first record by which a file does not go on ends it, whatever is behind.
func TestP17_1Ends(t *testing.T) {
	for _, x := range []story{tell(plain(0)), tell(plain(7), nil), tell(some()), tell(full()), short(), tell(plain(0), list(add(top, 0, 1)))} {
		s := x.last()
		good := goesOn(s.Now, same(s))
		last := len(x.ends) - 1
		for _, b := range ends(s) {
			for _, behind := range [][]byte{nil, good, slices.Concat(good, good), record(2, nil), x.bytes()} {
				wantStory(t, slices.Concat(x.bytes(), b, behind), x, last)
			}
		}
		// And it does go on by the good one.
		wantTold(t, slices.Concat(x.bytes(), good), len(x.bytes())+len(good))
		wantTold(t, slices.Concat(x.bytes(), good, good, ends(s)[3], good), len(x.bytes())+2*len(good))
	}
}

// A record of which one event can't be is refused whole, whatever its others, and those behind it, are.
func TestP17_1Refused(t *testing.T) {
	// Subscriber 0 has two blocks, one of another address than its own.
	two := some()
	two.L = []api.Lease{{Sub: 0, Addr: 0, Blk: 1, From: 2, Last: 20}, {Sub: 0, Addr: 1, Blk: 1, From: 20, Last: 20}}
	for _, x := range []struct {
		s api.State
		l []api.Event // none of which can be
	}{
		{plain(9), list(grant(9, 0, 0, 0), free(9, 0, 0, 0), drain(9, 0), size(9, 0, 1), gone(9, 0), add(9, 0, 3), add(9, 2, 1))},
		{some(), list(grant(20, 1, 0, 1), grant(20, 1, 0, 0), grant(20, 1, 1, 2), grant(20, 4, 0, 2), grant(20, 1, 2, 0), grant(20, 1, 0, 3),
			free(20, 1, 0, 1), free(20, 0, 0, 2), free(20, 0, 1, 1), add(20, 0, 1), add(20, 1, 1), drain(20, 1), drain(20, 2), size(20, 0, 2), size(20, 1, 2), size(20, 2, 1), gone(20, 1), gone(20, 0), gone(20, 2))},
		{two, list(policy(20, 1, 10, 5, false), policy(20, 2, 10, 5, true), policy(20, 2, 1<<20, 1<<20, true), grant(20, 0, 0, 2), free(20, 0, 0, 2))},
		{full(), list(grant(top, 0, 0, 0), grant(top, 1, 0, 0), free(top, 1, 0, 0), free(top, 0, 1, 0), add(top, 3, 1), drain(top, 1), size(top, 0, 3), gone(top, 1))},
	} {
		b := begins(x.s)
		// This one can always be, and changes nothing.
		can := same(x.s)
		wantTold(t, slices.Concat(b, goesOn(x.s.Now, can)), len(b)+len(goesOn(x.s.Now, can)))
		for _, e := range x.l {
			for _, l := range [][]api.Event{list(e), list(can, e), list(e, can), list(can, can, e, can)} {
				for _, behind := range [][]byte{nil, goesOn(x.s.Now, can), record(2, nil)} {
					wantStory(t, slices.Concat(b, goesOn(x.s.Now, l...), behind), tell(x.s), 0)
				}
				// So it is behind a good one.
				y := tell(x.s, nil, list(can))
				wantStory(t, slices.Concat(y.bytes(), goesOn(x.s.Now, l...), goesOn(x.s.Now, can)), y, 2)
			}
		}
	}
}

// What an event makes hangs on the events ahead, of its record, and of those ahead.
func TestP17_1StateSoFar(t *testing.T) {
	steps := list(add(2, 0, 1), grant(2, 0, 0, 0), free(4, 0, 0, 0), grant(9, 1, 0, 0), policy(9, 1, 3, 0, false), drain(9, 0), free(10, 1, 0, 0), gone(10, 0))
	var each [][]api.Event
	for _, e := range steps {
		each = append(each, list(e))
	}
	wantStory(t, tell(plain(2), each...).bytes(), tell(plain(2), each...), len(steps))
	for k := range len(steps) + 1 {
		x := tell(plain(2), steps[:k], nil, steps[k:])
		wantStory(t, x.bytes(), x, 3)
		// With one left out that others lean on, the file ends ahead of these.
		if k < len(steps) && steps[k].Kind != api.EvPolicy {
			b := begins(plain(2))
			now := 2
			for i, e := range steps {
				if i != k {
					b = append(b, goesOn(now, e)...)
					now = e.At
				}
			}
			if n, is := recover.Good(b); !is || n == len(b) && k < len(steps)-1 {
				t.Errorf("without %v it is good to its end", steps[k])
			}
			wantTold(t, b, otherTold(b).n)
		}
	}
	// A block that is held is granted from its tick on, and not ahead of it.
	ahead := list(add(2, 0, 1), grant(2, 0, 0, 0), free(4, 0, 0, 0))
	x := tell(plain(2), ahead)
	for at := 4; at < 12; at++ {
		b := slices.Concat(x.bytes(), goesOn(4, grant(at, 1, 0, 0)))
		if at < 9 {
			wantStory(t, b, x, 1)
		} else {
			wantStory(t, b, tell(plain(2), ahead, list(grant(at, 1, 0, 0))), 2)
		}
	}
}

// A record of no events goes on, wherever it stands, and leaves the tick.
func TestP17_1NoEvents(t *testing.T) {
	empty := record(2, nil)
	if !bytes.Equal(empty[:2], []byte{2, 0}) || len(empty) != 6 {
		t.Fatalf("%v", empty)
	}
	for _, s := range states() {
		for n := range 20 {
			b := slices.Concat(begins(s), bytes.Repeat(empty, n))
			wantTold(t, b, len(b))
			if l := recover.Events(b); len(l) != 0 {
				t.Errorf("%d of none: %v", n, l)
			}
			if got, is := recover.Last(b); !is || !isSameState(got, s) {
				t.Errorf("%d of none: %v, not %v", n, got, s)
			}
		}
	}
	lists := [][]api.Event{list(add(5, 0, 2)), list(grant(8, 0, 0, 0)), list(grant(8, 1, 0, 1), free(9, 0, 0, 0))}
	for at := range 4 {
		x := tell(plain(3), slices.Insert(slices.Clone(lists), at, [][]api.Event{nil, nil}...)...)
		wantStory(t, x.bytes(), x, 5)
		if s := x.last(); s.Now != 9 || !isSameState(s, tell(plain(3), lists...).last()) {
			t.Errorf("with none at %d: %v", at, s)
		}
	}
}

// Ticks go on from the state's at first, and from the last event's ahead then.
func TestP17_1Ticks(t *testing.T) {
	later := record(2, []byte{16 * 3, 2})
	x := slices.Concat(begins(plain(100)), record(2, []byte{16*7 + 2, 1}), later, record(2, nil), record(2, []byte{17, 2, 16 * 5, 1}), later)
	want := list(add(107, 0, 1), grant(110, 0, 0, 2), free(111, 0, 0, 2), grant(116, 0, 0, 1), grant(119, 0, 0, 2))
	if l := recover.Events(x); !slices.Equal(l, want) {
		t.Errorf("%v, not %v", l, want)
	}
	wantTold(t, x, len(x))
	// Events that were put from an earlier tick on are read as later ones: no bytes tell of a tick below the one from which they go on.
	for _, from := range []int{0, 1, 4, 5, 6} {
		b := slices.Concat(begins(plain(6)), goesOn(from, add(9, 0, 1)))
		if l := recover.Events(b); !slices.Equal(l, list(add(15-from, 0, 1))) {
			t.Errorf("put from %d on: %v", from, l)
		}
		wantTold(t, b, len(b))
	}
	// The greatest tick can be reached, in one step, or in several, and not be passed.
	for _, now := range []int{0, 1, top - 1, top} {
		b := begins(plain(now))
		wantTold(t, slices.Concat(b, goesOn(now, add(top, 0, 1))), len(b)+len(goesOn(now, add(top, 0, 1))))
		wantTold(t, slices.Concat(b, record(2, slices.Concat(bytesOf((top-now+1)*16+2), []byte{1})), record(2, nil)), len(b))
		whole := slices.Concat(b, goesOn(now, add(top, 0, 1)), goesOn(top, size(top, 0, 2)))
		wantTold(t, slices.Concat(whole, record(2, []byte{19, 0}), record(2, []byte{3, 0})), len(whole))
	}
}

// A body has at most 400 numbers, and a record at most 1000 bytes of it.
func TestP17_1Limits(t *testing.T) {
	x := tell(plain(0), list(policy(0, 1, 1, 0, false), add(0, 0, 1)))
	pair := []byte{0, 0, 1, 0}
	for _, n := range []int{1, 50, 99, 100, 101, 200} {
		b := slices.Concat(x.bytes(), record(2, bytes.Repeat(pair, n)), record(2, pair))
		want := len(b)
		if n > 100 {
			want = x.ends[1]
		}
		wantTold(t, b, want)
	}
	// Bodies longer than 127 bytes have two bytes of length.
	b := slices.Concat(x.bytes(), record(2, bytes.Repeat(pair, 32)))
	wantTold(t, b, x.ends[1]+2+1+128+4)
}

// Bytes that begin by no state are not good, whatever is behind.
func TestP17_1NotGood(t *testing.T) {
	wantNone(t, nil)
	wantNone(t, []byte{})
	for _, s := range states() {
		body, _ := state.Put(s)
		good := slices.Concat(begins(s), record(2, nil))
		for kind := range 256 {
			if kind != api.RecState {
				wantNone(t, slices.Concat(record(kind, body), record(2, nil)))
			}
		}
		for n := range body {
			wantNone(t, slices.Concat(record(1, body[:n]), good))
		}
		for _, b := range [][]byte{{0}, {1}, {2}, {1, 0}, {255, 255}, record(2, nil), record(1, nil), goesOn(s.Now, grant(s.Now, 1, 0, 0)), record(1, append(slices.Clone(body), 0)), record(1, slices.Concat(body, body)), begins(s)[1:], begins(s)[:9], make([]byte, 300)} {
			wantNone(t, b)
			wantNone(t, slices.Concat(b, good))
		}
		for bit := range 8 * len(begins(s)) {
			b := slices.Clone(good)
			b[bit/8] ^= 1 << (bit % 8)
			wantNone(t, b)
		}
	}
}

// One bit that is another one ends a file ahead of the record that it is of.
func TestP17_1EachBit(t *testing.T) {
	for _, x := range []story{short(), tell(plain(0), list(add(1, 0, 2)), nil, list(grant(2, 0, 0, 0)))} {
		for bit := range 8 * len(x.bytes()) {
			b := x.bytes()
			b[bit/8] ^= 1 << (bit % 8)
			k := 0
			for x.ends[k] <= bit/8 {
				k++
			}
			if k == 0 {
				wantNone(t, b)
			} else {
				wantStory(t, b, x, k-1)
			}
		}
	}
}

// A file whose state is another one by one bit, with the sum of that, begins by that one, or by none.
func TestP17_1OtherStates(t *testing.T) {
	happened := map[bool]int{}
	for _, s := range []api.State{plain(0), some(), full()} {
		body, _ := state.Put(s)
		for bit := range 8 * len(body) {
			other := slices.Clone(body)
			other[bit/8] ^= 1 << (bit % 8)
			begin := record(1, other)
			got, is := state.Read(other)
			happened[is]++
			if !is {
				wantNone(t, slices.Concat(begin, record(2, nil)))
				continue
			}
			x := tell(got, nil, list(same(got)))
			wantStory(t, slices.Concat(begin, x.bytes()[len(begin):], []byte{2}), x, 2)
		}
	}
	if happened[true] < 20 || happened[false] < 20 {
		t.Errorf("happened: %v", happened)
	}
}

// Of two records that changed their places, or of one that is missing, or twice, it is as the other reading tells.
func TestP17_1OtherOrders(t *testing.T) {
	for _, x := range stories() {
		n := len(x.records)
		for k := 1; k < n && k < 12; k++ {
			without := slices.Delete(slices.Clone(x.records), k, k+1)
			twice := slices.Insert(slices.Clone(x.records), k, x.records[k])
			swapped := slices.Clone(x.records)
			swapped[k], swapped[n-1] = swapped[n-1], swapped[k]
			for _, l := range [][][]byte{without, twice, swapped} {
				b := slices.Concat(l...)
				wantTold(t, b, otherTold(b).n)
			}
		}
	}
}

// Bodies that are events' but for one bit, with the sum of these, and files of bodies at random, are as the other reading tells.
func TestP17_1AnyBodies(t *testing.T) {
	happened := map[bool]int{}
	for _, x := range []story{short(), tell(some(), list(drain(20, 0)), list(free(25, 0, 0, 1)))} {
		for k := 1; k < len(x.records); k++ {
			_, body, _ := otherRecord(x.records[k])
			for bit := range 8 * len(body) {
				other := slices.Clone(body)
				other[bit/8] ^= 1 << (bit % 8)
				b := slices.Concat(slices.Concat(x.records[:k]...), record(2, other), slices.Concat(x.records[k+1:]...))
				want := otherTold(b)
				wantTold(t, b, want.n)
				happened[want.n > x.ends[k-1]]++
			}
		}
	}
	if happened[true] < 20 || happened[false] < 20 {
		t.Errorf("happened: %v", happened)
	}
	chance := rand.New(rand.NewSource(3))
	counts := map[int]int{}
	for range 5000 {
		from := plain(3)
		from.P.Hold, from.Pools = chance.Intn(2), []api.Pool{{From: 0, N: 2}}
		b := begins(from)
		for range 6 {
			var body []byte
			for range chance.Intn(3) {
				kind := []int{0, 0, 0, 0, 1, 1, 1, 3, 4, chance.Intn(16)}[chance.Intn(10)]
				body = append(body, byte(16*chance.Intn(3)+kind), byte(32*chance.Intn(3)+8*chance.Intn(2)+chance.Intn(3)))
			}
			b = append(b, record(2, body)...)
		}
		want := otherTold(b)
		wantTold(t, b, want.n)
		counts[len(want.l)]++
	}
	if counts[0] < 500 || counts[1] < 500 || counts[2] < 200 || counts[3] < 100 || counts[4] < 20 {
		t.Errorf("events that were read: %v", counts)
	}
}

// file is one of bytes that are all sure.
func file(no int, parts ...[]byte) api.File {
	b := slices.Concat(parts...)
	return api.File{No: no, Data: b, Sure: len(b)}
}

// unsure is one of bytes of which only the first ones are sure.
func unsure(no, sure int, parts ...[]byte) api.File {
	f := file(no, parts...)
	f.Sure = sure
	return f
}

// diskOf is a disk of these files.
func diskOf(room int, l ...api.File) api.Disk { return api.Disk{Cap: room, F: l} }

// ownDisk is a copy of a disk, in memory of its own.
func ownDisk(d api.Disk) api.Disk {
	l := make([]api.File, len(d.F))
	for i, f := range d.F {
		l[i] = api.File{No: f.No, Data: append([]byte{}, f.Data...), Sure: f.Sure}
	}
	return api.Disk{Cap: d.Cap, F: l}
}

// ownState is a copy of a state, in memory of its own.
func ownState(s api.State) api.State {
	s.Pools, s.L, s.H = slices.Clone(s.Pools), slices.Clone(s.L), slices.Clone(s.H)
	return s
}

// used is how many bytes files have.
func used(l []api.File) int {
	n := 0
	for _, f := range l {
		n += len(f.Data)
	}
	return n
}

// mayBe tells whether a disk may be, by another way than disk's.
func mayBe(d api.Disk) bool {
	may := d.Cap >= 0 && d.Cap <= 65536 && len(d.F) <= 12 && used(d.F) <= d.Cap
	for i, f := range d.F {
		may = may && f.No >= 1 && f.No <= 1073741824 && f.Sure >= 0 && f.Sure <= len(f.Data) && (i == 0 || f.No > d.F[i-1].No)
	}
	return may
}

// otherLoad tells what Load is to answer.
func otherLoad(d api.Disk) (api.Wal, api.State, api.Errno) {
	if !mayBe(d) {
		return api.Wal{}, api.State{}, 1
	}
	last := -1
	var x told
	for i, f := range d.F {
		if y := otherTold(f.Data); y.is {
			last, x = i, y
		}
	}
	if last < 0 {
		return api.Wal{}, api.State{}, 5
	}
	d = ownDisk(d)
	d.F = d.F[:last+1]
	d.F[last].Data, d.F[last].Sure = d.F[last].Data[:x.n], x.n
	return api.Wal{D: d, No: d.F[last].No, Now: x.now}, x.s, 0
}

// wantLoad wants of a disk what otherLoad tells, and that error; and that what is loaded is a log that is loaded again as the same.
func wantLoad(t *testing.T, d api.Disk, wantE api.Errno) {
	t.Helper()
	want, wantS, otherE := otherLoad(d)
	w, s, e := recover.Load(d)
	if e != wantE || e != otherE || !isSame(w, want) || !isSameState(s, wantS) {
		t.Fatalf("Load(%v): %v, %v, %d, not %v, %v, %d", d, w, s, e, want, wantS, wantE)
	}
	if e != api.OK {
		if w.D.F != nil || s.Pools != nil || s.L != nil || s.H != nil {
			t.Fatalf("Load(%v): %v, %v with error %d", d, w, s, e)
		}
		return
	}
	again, sAgain, e := recover.Load(w.D)
	if e != api.OK || !wal.May(w) || !isSame(again, w) || !isSameState(sAgain, s) {
		t.Fatalf("loaded twice, %v: %v, %v, %d, not %v, %v", d, again, sAgain, e, w, s)
	}
}

// wantLoaded wants a log of these files, at that tick, and that state.
func wantLoaded(t *testing.T, d api.Disk, now int, wantS api.State, left ...api.File) {
	t.Helper()
	wantLoad(t, d, api.OK)
	want := api.Wal{D: diskOf(d.Cap, left...), No: left[len(left)-1].No, Now: now}
	if w, s, _ := recover.Load(d); !isSame(w, want) || !isSameState(s, wantS) {
		t.Fatalf("Load(%v): %v, %v, not %v, %v", d, w, s, want, wantS)
	}
}

// A log all of which is good is loaded as it is, be it sure or not: then it is.
func TestP17_2Whole(t *testing.T) {
	for _, x := range stories() {
		b := x.bytes()
		for _, sure := range []int{0, 1, len(b) / 2, len(b) - 1, len(b)} {
			for _, no := range []int{1, 2, 77, top} {
				for _, room := range []int{len(b), len(b) + 1, 65536} {
					wantLoaded(t, diskOf(room, unsure(no, sure, b)), x.last().Now, x.last(), file(no, b))
				}
			}
		}
	}
}

// One file is cut off behind what is good of it, wherever it ends, and all of that is sure then.
func TestP17_2CutOff(t *testing.T) {
	for _, x := range []story{short(), tell(some(), list(drain(20, 0)), nil)} {
		b := x.bytes()
		k := -1
		for n := range len(b) + 1 {
			if k+1 < len(x.ends) && x.ends[k+1] == n {
				k++
			}
			for _, sure := range []int{0, n / 2, n} {
				d := diskOf(9000, unsure(3, sure, b[:n]))
				if k < 0 {
					wantLoad(t, d, api.ErrNone)
					continue
				}
				wantLoaded(t, d, x.states[k].Now, x.states[k], file(3, b[:x.ends[k]]))
			}
		}
		for _, behind := range ends(x.last()) {
			more := goesOn(x.last().Now, same(x.last()))
			wantLoaded(t, diskOf(9000, file(3, b, behind)), x.last().Now, x.last(), file(3, b))
			wantLoaded(t, diskOf(9000, unsure(3, 2, b, behind, more)), x.last().Now, x.last(), file(3, b))
		}
	}
}

// The tick is the last event's, the state's if there is none; a record of no events leaves it.
func TestP17_2Now(t *testing.T) {
	for _, x := range []struct {
		story story
		now   int
	}{
		{tell(plain(0)), 0}, {tell(plain(7)), 7}, {tell(plain(top)), top}, {tell(plain(7), nil), 7}, {tell(plain(7), list(add(7, 0, 1))), 7},
		{tell(plain(7), list(add(8, 0, 1))), 8}, {tell(plain(7), list(add(8, 0, 1)), nil), 8}, {tell(plain(7), nil, list(add(8, 0, 1), drain(11, 0)), nil, nil), 11},
		{tell(plain(7), list(add(8, 0, 1)), list(drain(400, 0), gone(top, 0))), top}, {tell(plain(7), list(add(8, 0, 1)), list(drain(8, 0), gone(8, 0)), list(add(9, 0, 1))), 9},
	} {
		w, s, e := recover.Load(diskOf(9000, file(5, x.story.bytes())))
		if e != api.OK || w.Now != x.now || s.Now != x.now || w.No != 5 {
			t.Errorf("%v: %v, %v, %d, not %d", x.story, w, s, e, x.now)
		}
	}
}

// kinds are files' bytes of all kinds, some good to their ends, some up to a place, and some not.
func kinds() [][]byte {
	one, two := short().bytes(), tell(plain(50), list(add(60, 0, 1))).bytes()
	return [][]byte{
		one, two, begins(some()), slices.Concat(one, []byte{2, 9, 1}), slices.Concat(two, record(3, nil), record(2, nil)), two[:len(two)-1],
		nil, []byte("no state"), one[:20], goesOn(0, add(5, 0, 1)), record(1, nil), slices.Concat([]byte{0}, one),
	}
}

// Of several files the last one that is good counts: those behind it go, those ahead of it stay, good or not.
func TestP17_2Several(t *testing.T) {
	l := kinds()
	for _, a := range l {
		for _, b := range l {
			for _, c := range l {
				files := []api.File{unsure(2, len(a)/2, a), unsure(3, len(b)/3, b), unsure(9, 0, c)}
				last := -1
				for i, f := range files {
					if _, is := recover.Good(f.Data); is {
						last = i
					}
				}
				if last < 0 {
					wantLoad(t, diskOf(9000, files...), api.ErrNone)
					continue
				}
				x := otherTold(files[last].Data)
				wantLoaded(t, diskOf(9000, files...), x.now, x.s, append(slices.Clone(files[:last]), file(files[last].No, files[last].Data[:x.n]))...)
			}
		}
	}
}

// Which of four files are good tells which one is loaded.
func TestP17_2WhichIsLast(t *testing.T) {
	for goods := range 16 {
		var files []api.File
		last := -1
		for i := range 4 {
			f := unsure(3*i+1, i, bytes.Repeat([]byte{byte(i)}, 40))
			if goods>>i&1 == 1 {
				f, last = unsure(3*i+1, i, tell(plain(10*i), list(add(10*i+1, 0, 1))).bytes(), []byte("and more")), i
			}
			files = append(files, f)
		}
		d := diskOf(9000, files...)
		if last < 0 {
			wantLoad(t, d, api.ErrNone)
			continue
		}
		f := files[last]
		wantLoaded(t, d, 10*last+1, tell(plain(10*last), list(add(10*last+1, 0, 1))).last(), append(slices.Clone(files[:last]), file(f.No, f.Data[:len(f.Data)-8]))...)
	}
}

// There may be twelve files, of any numbers that may be.
func TestP17_2Twelve(t *testing.T) {
	for _, base := range []int{0, 5, top - 12} {
		for last := range 12 {
			var files []api.File
			for i := range 12 {
				f := file(base+i+1, []byte{1, 2, 3})
				if i <= last {
					f = file(base+i+1, begins(plain(i)))
				}
				files = append(files, f)
			}
			wantLoaded(t, diskOf(used(files), files...), last, plain(last), files[:last+1]...)
		}
	}
}

// No file, or none that is good, is none.
func TestP17_2None(t *testing.T) {
	for _, room := range []int{0, 1, 9000, 65536} {
		wantLoad(t, diskOf(room), api.ErrNone)
		wantLoad(t, api.Disk{Cap: room, F: []api.File{}}, api.ErrNone)
	}
	for _, n := range []int{1, 2, 11, 12} {
		var empty, junk []api.File
		for i := range n {
			empty, junk = append(empty, api.File{No: i + 1}), append(junk, file(top-12+i, begins(some())[:20+i]))
		}
		wantLoad(t, diskOf(0, empty...), api.ErrNone)
		wantLoad(t, diskOf(9000, junk...), api.ErrNone)
	}
}

// badDisks are disks that may not be, made of one that may, each for one reason.
func badDisks(d api.Disk) []api.Disk {
	var l []api.Disk
	bad := func(change func(d *api.Disk)) {
		x := ownDisk(d)
		change(&x)
		l = append(l, x)
	}
	for _, n := range []int{-1, math.MinInt, 65537, math.MaxInt} {
		bad(func(d *api.Disk) { d.Cap = n })
	}
	bad(func(d *api.Disk) {
		for i := range 13 {
			d.F = append(d.F, api.File{No: 1000 + i})
		}
	})
	for k := range d.F {
		for _, n := range []int{0, -1, math.MinInt, top + 1, math.MaxInt} {
			bad(func(d *api.Disk) { d.F[k].No = n })
		}
		for _, n := range []int{-1, math.MinInt, len(d.F[k].Data) + 1, math.MaxInt} {
			bad(func(d *api.Disk) { d.F[k].Sure = n })
		}
		bad(func(d *api.Disk) { d.F = append(d.F, d.F[k]) })
	}
	if n := used(d.F); n > 0 {
		bad(func(d *api.Disk) { d.Cap = n - 1 })
		bad(func(d *api.Disk) { d.Cap = 0 })
	}
	return l
}

// Of a disk that may not be that is told first, be a file of it good, or none.
func TestP17_2MayNotBe(t *testing.T) {
	junk := bytes.Repeat([]byte{7}, 40)
	for _, d := range []api.Disk{
		diskOf(9000), diskOf(9000, file(4, short().bytes())), diskOf(9000, file(4, junk)), diskOf(9000, api.File{No: 4}),
		diskOf(9000, file(1, junk), file(5, short().bytes()), unsure(8, 3, junk)), diskOf(9000, file(1, short().bytes()), file(5, begins(some()))), diskOf(9000, file(1, junk), file(2, junk)),
	} {
		if !mayBe(d) {
			t.Fatalf("may not be: %v", d)
		}
		for _, x := range badDisks(d) {
			if mayBe(x) {
				t.Fatalf("may be: %v", x)
			}
			wantLoad(t, x, api.ErrArg)
		}
	}
}

// All pairs of numbers in each place of a disk are as the other way tells.
func TestP1NumbersOfDisks(t *testing.T) {
	far := []int{math.MinInt, math.MinInt + 1, math.MinInt + top, -1 << 32, -top, -1, 0, 1, 2, 12, 65536, top - 1, top, top + 1, 1 << 32, 1 << 62, math.MaxInt - 1, math.MaxInt}
	d := ownDisk(diskOf(9000, file(3, short().bytes()), unsure(5, 2, begins(some()), record(2, nil), []byte{2}), unsure(6, 1, []byte("none"))))
	places := []*int{&d.Cap}
	for i := range d.F {
		places = append(places, &d.F[i].No, &d.F[i].Sure)
	}
	for i, p := range places {
		for k, q := range places {
			wasP, wasQ := *p, *q
			for _, n := range far {
				for _, m := range far {
					if *p, *q = n, m; i == k && m != n {
						continue
					}
					_, _, e := otherLoad(d)
					wantLoad(t, d, e)
				}
			}
			*p, *q = wasP, wasQ
		}
	}
}

// Of bytes at random, and of files with bytes changed, all is as by the other way, and ends.
func TestP1AnyBytes(t *testing.T) {
	chance := rand.New(rand.NewSource(8))
	for range 20000 {
		b := make([]byte, chance.Intn(60))
		for i := range b {
			b[i] = []byte{0, 1, 2, 20, 127, 128, 255, byte(chance.Intn(256))}[chance.Intn(8)]
		}
		if chance.Intn(2) == 0 {
			b = slices.Concat(short().bytes(), b)
		}
		if chance.Intn(2) == 0 {
			b = record(1+chance.Intn(2), b[:min(len(b), 1000)])
		}
		wantTold(t, b, otherTold(b).n)
	}
	l := stories()
	for range 3000 {
		b := l[chance.Intn(len(l))].bytes()
		for range 1 + chance.Intn(3) {
			b[chance.Intn(len(b))] = byte(chance.Intn(256))
		}
		wantTold(t, b, otherTold(b).n)
		_, _, e := otherLoad(diskOf(65536, file(1, b)))
		wantLoad(t, diskOf(65536, file(1, b)), e)
	}
}

// A file as long as a disk can have one is read to its end.
func TestP1Long(t *testing.T) {
	b := begins(plain(0))
	b = append(b, goesOn(0, policy(0, 1, 1, 0, false), add(0, 0, 1))...)
	step := goesOn(0, grant(0, 0, 0, 0), free(1, 0, 0, 0))
	n := (65536 - len(b)) / len(step)
	b = append(b, bytes.Repeat(step, n)...)
	end := len(b)
	b = append(b, make([]byte, 65536-len(b))...)
	w, s, e := recover.Load(diskOf(65536, unsure(9, 7, b)))
	if e != api.OK || len(w.D.F[0].Data) != end || w.D.F[0].Sure != end || w.Now != n || s.Now != n {
		t.Errorf("%d bytes of %d, %v, %d", len(w.D.F[0].Data), end, s, e)
	}
	if l := recover.Events(b); len(l) != 2+2*n || l[len(l)-1] != free(n, 0, 0, 0) {
		t.Errorf("%d events, not %d", len(l), 2+2*n)
	}
	empty := slices.Concat(begins(some()), bytes.Repeat(record(2, nil), 50000), []byte{2})
	if n, is := recover.Good(empty); !is || n != len(empty)-1 {
		t.Errorf("%d of %d, %t", n, len(empty), is)
	}
}

// picks are what a crash may keep of so many bytes of one file that are not sure.
func picks(n int) [][]int {
	l := [][]int{nil, {-1, 1}, {n + 1, 0}, {n + 1, 1}, {math.MaxInt, 1}, {math.MinInt, 0}}
	for k := range n + 1 {
		l = append(l, []int{k, 0}, []int{k, 1}, []int{k, 2})
	}
	return l
}

// wantOneOf wants that what is loaded is the log, and the state, of one of two: what was sure, or that with what was being written.
func wantOneOf(t *testing.T, d api.Disk, was, then api.Wal, wasS, thenS api.State) (isThen bool) {
	t.Helper()
	w, s, e := recover.Load(d)
	isWas := isSame(w, was) && isSameState(s, wasS)
	isThen = isSame(w, then) && isSameState(s, thenS)
	if e != api.OK || !isWas && !isThen {
		t.Fatalf("Load(%v): %v, %v, %d, not %v, %v, nor %v, %v", d, w, s, e, was, wasS, then, thenS)
	}
	again, sAgain, e := recover.Load(w.D)
	if e != api.OK || !isSame(again, w) || !isSameState(sAgain, s) {
		t.Fatalf("loaded twice, %v: %v, %v, %d, not %v, %v", d, again, sAgain, e, w, s)
	}
	return isThen
}

// wantCrashesOfAdd wants, wherever a crash comes in between of writing events to a log, the log as it was, or with all of them; with less than all that was written it is as it was.
func wantCrashesOfAdd(t *testing.T, w api.Wal, s api.State, l []api.Event) {
	t.Helper()
	then, e := wal.Add(w, l)
	thenS, refused := state.All(s, l)
	if e != api.OK || refused != api.OK {
		t.Fatal(e, refused)
	}
	b := goesOn(w.Now, l...)
	d, _ := disk.Write(w.D, w.No, b)
	for _, p := range picks(len(b)) {
		crashed := disk.Crash(d, p)
		isThen := wantOneOf(t, crashed, w, then, s, thenS)
		all := len(p) == 2 && p[0] >= len(b) && p[1]%2 == 0
		if isThen != all {
			t.Fatalf("crashed by %v in the midst of %v: %t", p, l, isThen)
		}
	}
	for _, p := range [][]int{nil, {0, 1}, {5, 1}} {
		wantOneOf(t, disk.Crash(then.D, p), then, then, thenS, thenS)
	}
}

// wantCrashesOfNew wants that, wherever a crash comes in between of beginning a file, of the state that the log tells.
func wantCrashesOfNew(t *testing.T, w api.Wal, s api.State) {
	t.Helper()
	then, e := wal.New(w.D, s)
	if e != api.OK {
		t.Fatal(e)
	}
	d, _ := disk.Make(w.D, w.No+1)
	wantOneOf(t, d, w, w, s, s)
	wantOneOf(t, disk.Crash(d, nil), w, w, s, s)
	b := begins(s)
	d, _ = disk.Write(d, w.No+1, b)
	for _, p := range picks(len(b)) {
		crashed := disk.Crash(d, p)
		isThen := wantOneOf(t, crashed, w, then, s, s)
		all := len(p) == 2 && p[0] >= len(b) && p[1]%2 == 0
		if isThen != all {
			t.Fatalf("crashed by %v in the midst of a state: %t", p, isThen)
		}
	}
	wantOneOf(t, disk.Crash(then.D, []int{0, 1}), then, then, s, s)
}

// What was sure is told, whatever a crash kept of what was not; so it is, all the way, of logs that turn, and that are trimmed, with crashes in between.
func TestP17_3Crashes(t *testing.T) {
	turned, trimmed, added := 0, 0, 0
	for seed := range 6 {
		chance := rand.New(rand.NewSource(int64(seed)))
		s := api.State{D: mapping(30, 31, 3), P: api.Policy{Quota: 3, Idle: 9, Hold: 4}}
		w, e := wal.New(diskOf(6000), s)
		if e != api.OK {
			t.Fatal(e)
		}
		for range 400 {
			r := anyReq(chance, s)
			if chance.Intn(20) == 0 {
				r = api.Req{Kind: api.RqTick, N: s.Now + chance.Intn(900)}
			}
			_, was, e := recover.Load(w.D)
			then, l, _ := alloc.Do(s, r)
			if len(l) > 0 {
				if added++; added%5 == 0 {
					wantCrashesOfAdd(t, w, was, l)
				}
				if w, e = wal.Add(w, l); e != api.OK {
					t.Fatal(e)
				}
				// The log that a crash left is loaded, and written on.
				d, _ := disk.Write(w.D, w.No, []byte("half a record"))
				w, was, e = recover.Load(disk.Crash(d, []int{chance.Intn(14), chance.Intn(2)}))
			}
			told, settles := state.Settle(was, then.Now)
			if e != api.OK || !settles || !isSameState(told, settled(then)) {
				t.Fatalf("%v is told, not %v: %d", told, settled(then), e)
			}
			s = then
			files := len(w.D.F)
			if x, e := wal.Turn(w, settled(s)); e != api.OK {
				t.Fatal(e)
			} else if len(x.D.F) > files {
				at, _ := state.Settle(was, w.Now)
				wantCrashesOfNew(t, w, at)
				w = x
				turned++
			}
			files = len(w.D.F)
			w = wal.Trim(w, s.Now)
			trimmed += files - len(w.D.F)
			wantLoad(t, w.D, api.OK)
			if x, got, _ := recover.Load(w.D); !isSameDisk(x.D, w.D) || x.No != w.No || !isSameSettled(got, s) {
				t.Fatalf("%v, %v, not %v, %v", x, got, w, s)
			}
		}
	}
	if turned < 10 || trimmed < 4 || added < 200 {
		t.Errorf("turned %d times, trimmed %d, added %d", turned, trimmed, added)
	}
}

// isSameSettled tells whether a state is another one, settled at that one's tick.
func isSameSettled(a, b api.State) bool {
	a, is := state.Settle(a, b.Now)
	return is && isSameState(a, settled(b))
}

// A crash that comes ahead of the first state's being sure leaves none, or that.
func TestP17_3FirstState(t *testing.T) {
	for _, s := range []api.State{plain(0), some(), full()} {
		b := begins(s)
		d, _ := disk.Make(diskOf(9000), 1)
		wantLoad(t, disk.Crash(d, nil), api.ErrNone)
		d, _ = disk.Write(d, 1, b)
		for _, p := range picks(len(b)) {
			wantE := api.ErrNone
			if len(p) == 2 && p[0] >= len(b) && p[1]%2 == 0 {
				wantE = api.OK
			}
			wantLoad(t, disk.Crash(d, p), wantE)
		}
		d, _ = disk.Sync(d, 1)
		for _, p := range picks(5) {
			wantLoaded(t, disk.Crash(d, p), s.Now, s, file(1, b))
		}
	}
}

// Of several files with bytes that are not sure each crash leaves what the sure ones tell, at least.
func TestP17_3AnyCrash(t *testing.T) {
	chance := rand.New(rand.NewSource(5))
	l := stories()
	happened := map[api.Errno]int{}
	for range 4000 {
		var files []api.File
		lastSure := -1
		for i := range 1 + chance.Intn(4) {
			x := l[chance.Intn(len(l))]
			f := unsure(2*i+1, 0, x.bytes())
			if f.Sure = chance.Intn(len(f.Data) + 1); chance.Intn(2) == 0 {
				f.Sure = x.ends[chance.Intn(len(x.ends))]
			}
			if chance.Intn(4) == 0 {
				f = unsure(2*i+1, 0, []byte("no state of any kind"))
			}
			if otherTold(f.Data[:f.Sure]).is {
				lastSure = i
			}
			files = append(files, f)
		}
		d := diskOf(65536, files...)
		var p []int
		for range chance.Intn(9) {
			p = append(p, chance.Intn(60)-5)
		}
		crashed := disk.Crash(d, p)
		_, _, e := otherLoad(crashed)
		wantLoad(t, crashed, e)
		happened[e]++
		w, s, e := recover.Load(crashed)
		if lastSure < 0 {
			continue
		}
		sure := files[lastSure].Data[:files[lastSure].Sure]
		if e != api.OK || w.No < files[lastSure].No {
			t.Fatalf("Load(%v): %v, %d, though file %d is sure", crashed, w, e, files[lastSure].No)
		}
		if n, _ := recover.Good(sure); w.No == files[lastSure].No && !bytes.HasPrefix(w.D.F[lastSure].Data, sure[:n]) {
			t.Fatalf("Load(%v): %v, %v without what was sure", crashed, w, s)
		}
	}
	if happened[api.OK] < 1000 || happened[api.ErrNone] < 100 {
		t.Errorf("happened: %v", happened)
	}
}

// What is loaded is all sure of its last file, so no crash changes that; and it can be written on.
func TestP17_3Goes(t *testing.T) {
	for _, x := range stories() {
		if x.last().Now > top-1 {
			continue
		}
		d := diskOf(65536, file(2, begins(plain(0))), unsure(6, 3, x.bytes(), []byte("torn")), unsure(7, 0, begins(some())[:30]))
		w, s, e := recover.Load(d)
		if e != api.OK || w.No != 6 || w.D.F[1].Sure != len(x.bytes()) {
			t.Fatalf("%v, %d", w, e)
		}
		for _, p := range picks(4) {
			wantOneOf(t, disk.Crash(w.D, p), w, w, s, s)
		}
		next := policy(w.Now+1, 8, s.P.Idle, 0, s.P.Pair)
		then, e := wal.Add(w, list(next))
		want, refused := state.Apply(s, next)
		if e != api.OK || refused != api.OK {
			t.Fatal(e, refused)
		}
		wantOneOf(t, then.D, then, then, want, want)
	}
}

// roomy is a disk whose files, and their bytes, are parts of greater lists, in one memory; it tells whether that memory is as it was.
func roomy(d api.Disk) (api.Disk, func() bool) {
	var whole []byte
	for _, f := range d.F {
		whole = append(whole, f.Data...)
	}
	whole = append(whole, "BEHIND"...)
	l := make([]api.File, len(d.F), len(d.F)+3)
	at := 0
	for i, f := range d.F {
		l[i] = api.File{No: f.No, Data: whole[at : at+len(f.Data)], Sure: f.Sure}
		at += len(f.Data)
	}
	all := l[:cap(l)]
	for i := len(l); i < len(all); i++ {
		all[i] = api.File{No: -5, Data: whole[at:], Sure: 2}
	}
	was, filesWas := slices.Clone(whole), ownDisk(diskOf(0, all...))
	return api.Disk{Cap: d.Cap, F: l}, func() bool { return bytes.Equal(whole, was) && isSameDisk(diskOf(0, all...), filesWas) }
}

// spoil changes all of a disk that can be changed, and writes into what room is behind its lists.
func spoil(d api.Disk) {
	l := d.F[:cap(d.F)]
	for i, f := range l {
		b := f.Data[:cap(f.Data)]
		for k := range b {
			b[k] ^= 255
		}
		l[i] = api.File{No: -7, Data: []byte("spoiled"), Sure: -7}
	}
}

// spoilState overwrites a state's lists, and the room behind them.
func spoilState(s api.State) {
	for i := range s.Pools[:cap(s.Pools)] {
		s.Pools[:cap(s.Pools)][i].From = -9
	}
	for i := range s.L[:cap(s.L)] {
		s.L[:cap(s.L)][i].Sub = -9
	}
	for i := range s.H[:cap(s.H)] {
		s.H[:cap(s.H)][i].Till = -9
	}
}

// spoilEvents overwrites events, and the room behind them.
func spoilEvents(l []api.Event) {
	for i := range l[:cap(l)] {
		l[:cap(l)][i] = grant(-9, -9, -9, -9)
	}
}

// A disk that is handed in stays as it was, whatever is done to what came back; and the other way round. So it is of a disk that may not be.
func TestR3Load(t *testing.T) {
	x, y := short().bytes(), tell(some(), list(drain(20, 0))).bytes()
	l := []api.Disk{
		diskOf(9000), diskOf(9000, file(1, x)), diskOf(9000, unsure(1, 3, x, []byte("torn"))), diskOf(9000, file(1, y), unsure(4, 3, y), file(7, []byte("none"))),
		diskOf(9000, file(1, []byte("none")), file(4, x)), diskOf(len(x)+len(y), file(1, x), file(2, y)), diskOf(9000, file(1, []byte("none"))),
	}
	for _, d := range slices.Clone(l) {
		l = append(l, badDisks(d)...)
	}
	for i, given := range l {
		d, isAsItWas := roomy(given)
		w, s, _ := recover.Load(d)
		other, otherS, _ := recover.Load(d)
		wantW, wantS := api.Wal{D: ownDisk(w.D), No: w.No, Now: w.Now}, ownState(s)
		if !isAsItWas() {
			t.Errorf("%d: Load changed what was handed in: %v", i, given)
		}
		spoil(other.D)
		spoilState(otherS)
		if !isAsItWas() {
			t.Errorf("%d: what came back shares what was handed in: %v", i, given)
		}
		spoil(d)
		if !isSame(w, wantW) || !isSameState(s, wantS) {
			t.Errorf("%d: what came back shares what was handed in, or another answer: %v", i, given)
		}
	}
}

// No two files of what is loaded share memory, also where those handed in did.
func TestR3FilesApart(t *testing.T) {
	b := slices.Concat(short().bytes(), []byte("torn"))
	w, _, _ := recover.Load(diskOf(9000, api.File{No: 1, Data: b}, api.File{No: 2, Data: b}, api.File{No: 4, Data: b}))
	for at := range w.D.F {
		want := ownDisk(w.D)
		data := w.D.F[at].Data[:cap(w.D.F[at].Data)]
		for i := range data {
			data[i]++
		}
		for i := range want.F[at].Data {
			want.F[at].Data[i]++
		}
		if !isSameDisk(w.D, want) {
			t.Errorf("the file at %d shares memory with another one", at)
		}
	}
}

// Bytes that are handed in stay, and what comes back is the caller's own.
func TestR3Bytes(t *testing.T) {
	for _, x := range stories() {
		b := slices.Concat(x.bytes(), []byte("BEHIND"))
		was := slices.Clone(b)
		n := len(b) - 6
		for _, given := range [][]byte{b[:n], b, b[:n-1], b[:x.ends[0]], b[:x.ends[0]-1]} {
			s, _ := recover.Last(given)
			l := recover.Events(given)
			recover.Good(given)
			wantS, wantL := ownState(s), slices.Clone(l)
			otherS, _ := recover.Last(given)
			spoilState(otherS)
			spoilEvents(recover.Events(given))
			if !bytes.Equal(b, was) {
				t.Fatalf("%v became %v", was, b)
			}
			for i := range b {
				b[i] ^= 255
			}
			if !isSameState(s, wantS) || !slices.Equal(l, wantL) {
				t.Fatalf("of %v: %v, %v, not %v, %v", was, s, l, wantS, wantL)
			}
			copy(b, was)
		}
	}
}

// No call hangs on the ones ahead.
func TestR5NothingIsKept(t *testing.T) {
	for range 3 {
		for _, x := range stories()[:30] {
			wantStory(t, x.bytes(), x, len(x.ends)-1)
			wantNone(t, x.bytes()[1:])
			wantLoad(t, diskOf(65536, file(1, x.bytes())), api.OK)
			wantLoad(t, diskOf(65536), api.ErrNone)
			wantLoad(t, diskOf(-1, file(1, x.bytes())), api.ErrArg)
		}
	}
}

// Known bytes, made by a program of its own, by the document's words.
func TestKnown(t *testing.T) {
	zero := []byte{1, 28, 23, 128, 128, 128, 80, 31, 128, 128, 128, 88, 32, 232, 7, 203, 8, 20, 10, 1, 9, 5, 0, 0, 0, 0, 0, 0, 0, 0, 252, 84, 73, 193}
	granted := []byte{2, 4, 2, 1, 64, 0, 47, 165, 50, 236}
	freed := []byte{2, 2, 49, 0, 101, 187, 63, 186}
	seven := []byte{1, 33, 26, 128, 128, 128, 80, 31, 128, 128, 128, 88, 32, 232, 7, 203, 8, 20, 10, 1, 9, 5, 0, 7, 0, 1, 0, 1, 0, 0, 0, 1, 0, 1, 24, 35, 196, 18, 3}
	small := api.State{D: api.Det{In: api.Prefix{Base: 10 << 24, Bits: 31}, Out: api.Prefix{Base: 11 << 24, Bits: 32}, Lo: 1000, Hi: 1099, Dyn: 20, Block: 10}, P: api.Policy{Quota: 1, Idle: 9, Hold: 5}}
	had, held := small, small
	had.Now, had.Pools, had.L = 4, []api.Pool{{N: 1}}, []api.Lease{{From: 4, Last: 4}}
	held.Now, held.Pools, held.H = 7, []api.Pool{{N: 1}}, []api.Held{{Till: 12}}
	happened := list(add(0, 0, 1), grant(4, 0, 0, 0), free(7, 0, 0, 0))
	for _, x := range []struct {
		b      []byte
		n      int
		events []api.Event
		s      api.State
	}{
		{zero, 34, nil, small}, {slices.Concat(zero, granted), 44, happened[:2], had}, {slices.Concat(zero, granted, freed), 52, happened, held},
		{slices.Concat(zero, freed, granted), 34, nil, small}, {slices.Concat(zero, granted, granted), 44, happened[:2], had}, {slices.Concat(zero, granted, freed, freed), 52, happened, held},
		{slices.Concat(zero, granted, freed, seven), 52, happened, held}, {seven, 39, nil, held}, {slices.Concat(seven, freed), 39, nil, held},
	} {
		n, is := recover.Good(x.b)
		s, has := recover.Last(x.b)
		if l := recover.Events(x.b); !is || !has || n != x.n || !slices.Equal(l, x.events) || !isSameState(s, x.s) {
			t.Errorf("of %v: %d, %t, %v, %v, %t", x.b, n, is, l, s, has)
		}
	}
	whole := slices.Concat(zero, granted, freed)
	wantLoaded(t, diskOf(9000, unsure(1, 34, whole, granted[:7])), 7, held, file(1, whole))
	wantLoaded(t, diskOf(9000, unsure(1, 34, whole[:51])), 4, had, file(1, whole[:44]))
	wantLoaded(t, diskOf(9000, file(1, whole), unsure(2, 0, seven[:38])), 7, held, file(1, whole))
	wantLoaded(t, diskOf(9000, unsure(1, 9, whole, freed), unsure(2, 0, seven)), 7, held, unsure(1, 9, whole, freed), file(2, seven))
}

// The document's example: a file that ends in the midst of a record is cut off ahead of it.
func TestExample(t *testing.T) {
	x := short()
	b := x.bytes()
	for k := 1; k < len(x.ends); k++ {
		for n := x.ends[k-1] + 1; n < x.ends[k]; n++ {
			w, s, e := recover.Load(diskOf(9000, file(1, b[:n])))
			if e != api.OK || !bytes.Equal(w.D.F[0].Data, b[:x.ends[k-1]]) || !isSameState(s, x.states[k-1]) {
				t.Errorf("of %d bytes: %v, %v, %d", n, w, s, e)
			}
		}
	}
}
