package state_test

import (
	"bytes"
	"cmp"
	"math"
	"math/big"
	"math/rand"
	"slices"
	"testing"

	"moorings/addr"
	"moorings/alloc"
	"moorings/api"
	"moorings/detmap"
	"moorings/event"
	"moorings/pool"
	"moorings/state"
)

// top is the greatest tick, long the longest wait.
const (
	top  = 1 << 30
	long = 1 << 20
)

// block is a public address, and a block of it.
type block struct{ at, blk int }

// mapping has subscribers, and public addresses, by prefixes of so many bits, and of each address n blocks of 10 ports.
func mapping(in, out, n int) api.Det {
	return api.Det{In: api.Prefix{Base: 10 << 24, Bits: in}, Out: api.Prefix{Base: 11 << 24, Bits: out}, Lo: 1000, Hi: 1999, Dyn: 10*n + 3, Block: 10}
}

// two has four subscribers, two to each of two addresses of three blocks.
func two() api.Det { return mapping(30, 31, 3) }

// most has 32 subscribers, eight to each of four addresses of eight blocks.
func most() api.Det { return mapping(27, 30, 8) }

// mappings are of all kinds: of one of all, of more addresses than subscribers, of no blocks.
func mappings() []api.Det {
	return []api.Det{mapping(31, 32, 2), two(), most(), mapping(31, 30, 2), mapping(32, 31, 1), mapping(32, 32, 1), mapping(30, 32, 0), mapping(29, 30, 4)}
}

// empty is a state of nothing had, nor held, and without pools.
func empty() api.State {
	return api.State{D: two(), P: api.Policy{Quota: 2, Idle: 10, Hold: 5}, Now: 20}
}

// some is a state of all that there can be, that may be with Pair set, too; two of its leases were not used at its tick.
func some() api.State {
	s := empty()
	s.Pools = []api.Pool{{From: 0, N: 1, St: api.Active}, {From: 1, N: 1, St: api.Drains}}
	s.L = []api.Lease{{Sub: 0, Addr: 0, Blk: 1, From: 2, Last: 15}, {Sub: 3, Addr: 1, Blk: 0, From: 20, Last: 20}, {Sub: 2, Addr: 1, Blk: 1, From: 0, Last: 11}}
	s.H = []api.Held{{Addr: 0, Blk: 0, Till: 21}, {Addr: 1, Blk: 2, Till: 20 + long}}
	return s
}

// one is a state of one lease, and one block that is held.
func one() api.State {
	return with(some(), func(s *api.State) { s.L, s.H = s.L[2:], s.H[:1] })
}

// full is a state of 32 leases: each subscriber has one of its own address.
func full() api.State {
	s := api.State{D: most(), P: api.Policy{Quota: 1, Idle: long, Hold: 1, Pair: true}, Now: 40, Pools: []api.Pool{{From: 0, N: 4}}}
	for sub := range 32 {
		s.L = append(s.L, api.Lease{Sub: sub, Addr: sub / 8, Blk: sub % 8, From: sub / 2, Last: 40 - sub/3})
	}
	return s
}

// allHeld is a state of 32 blocks that are held, some of no pool.
func allHeld() api.State {
	return with(full(), func(s *api.State) {
		s.Pools, s.L = []api.Pool{{From: 3, N: 1, St: api.Drains}, {From: 0, N: 1}, {From: 2, N: 1}}, nil
		for i := range 32 {
			s.H = append(s.H, api.Held{Addr: i / 8, Blk: i % 8, Till: 41 + i*i*1000})
		}
	})
}

// half is a state of 16 leases, of four subscribers, and 16 blocks that are held.
func half() api.State {
	return with(full(), func(s *api.State) {
		s.P.Quota, s.P.Pair, s.L = 8, false, nil
		for i := range 32 {
			if i%2 == 0 {
				s.L = append(s.L, api.Lease{Sub: 31 - i%8, Addr: i / 8, Blk: i % 8, From: i % 7, Last: 40 - i})
			} else {
				s.H = append(s.H, api.Held{Addr: i / 8, Blk: i % 8, Till: 40 + i})
			}
		}
	})
}

// late is a state at the last tick, whose leases would last longer, and whose blocks are held longer.
func late() api.State {
	return with(some(), func(s *api.State) {
		s.Now = top
		for i := range s.L {
			s.L[i].Last = s.Now - i
		}
		s.H = []api.Held{{Addr: 0, Blk: 0, Till: top + 1}, {Addr: 1, Blk: 2, Till: top + long}}
	})
}

// paired is some with Pair set.
func paired() api.State { return with(some(), func(s *api.State) { s.P.Pair = true }) }

// known are states that may be, each at an edge.
func known() []api.State {
	return []api.State{
		empty(), with(empty(), func(s *api.State) { s.Now = 0 }), with(empty(), func(s *api.State) { s.Now, s.P.Pair = top, true }),
		with(empty(), func(s *api.State) { s.Pools, s.L, s.H = []api.Pool{}, []api.Lease{}, []api.Held{} }),
		some(), one(), full(), allHeld(), half(), late(), paired(),
		with(some(), func(s *api.State) { s.H = nil }),
		with(some(), func(s *api.State) { s.L = nil }),
		with(some(), func(s *api.State) { s.P.Hold = 0 }),
		with(some(), func(s *api.State) { s.P.Hold = long }),
		with(some(), func(s *api.State) { s.Pools, s.L = nil, nil }),
		with(some(), func(s *api.State) { s.Pools = []api.Pool{{From: 0, N: 2, St: api.Drains}} }),
	}
}

// met are states that are met by asking alloc at random.
func met() []api.State {
	var all []api.State
	for seed, d := range mappings() {
		for _, pair := range []bool{false, true} {
			chance := rand.New(rand.NewSource(int64(seed)))
			s := api.State{D: d, P: api.Policy{Quota: 1 + seed%3, Idle: 4 + seed, Hold: seed % 4, Pair: pair}, Pools: []api.Pool{{From: 0, N: addr.Size(d.Out)}}}
			for i := range 60 {
				s, _, _ = alloc.Do(s, anyReq(chance, s))
				if i%12 == 11 {
					all = append(all, s)
				}
			}
		}
	}
	return all
}

// states are many states that may be.
func states() []api.State { return append(known(), met()...) }

// anyReq is a request at random, that often can be done.
func anyReq(chance *rand.Rand, s api.State) api.Req {
	subs, outs := addr.Size(s.D.In), addr.Size(s.D.Out)
	r := api.Req{Kind: chance.Intn(9), Sub: chance.Intn(subs+1) - chance.Intn(2), Addr: chance.Intn(outs+1) - chance.Intn(2), Blk: chance.Intn(9), N: chance.Intn(4)}
	switch chance.Intn(4) {
	case 0, 1:
		r.Kind = api.RqGrant
	case 2:
		r.Kind = api.RqTick
	}
	if len(s.L) > 0 && chance.Intn(8) > 0 && (r.Kind == api.RqRefresh || r.Kind == api.RqRelease) {
		x := s.L[chance.Intn(len(s.L))]
		r.Sub, r.Addr, r.Blk = x.Sub, x.Addr, x.Blk
	}
	if r.Kind == api.RqTick {
		r.N = s.Now + chance.Intn(5) - chance.Intn(20)/19
	}
	if r.Kind == api.RqPolicy {
		r.P = api.Policy{Quota: chance.Intn(10), Idle: chance.Intn(12), Hold: chance.Intn(6) - chance.Intn(2), Pair: chance.Intn(3) == 0}
	}
	return r
}

// with is a state, changed.
func with(s api.State, change func(s *api.State)) api.State {
	s = own(s)
	change(&s)
	return s
}

// own is a copy of a state.
func own(s api.State) api.State {
	s.Pools, s.L, s.H = slices.Clone(s.Pools), slices.Clone(s.L), slices.Clone(s.H)
	return s
}

// isSame tells whether two states are the same.
func isSame(a, b api.State) bool {
	return a.D == b.D && a.P == b.P && a.Now == b.Now && slices.Equal(a.Pools, b.Pools) && slices.Equal(a.L, b.L) && slices.Equal(a.H, b.H)
}

// edges are numbers around all that the chapter names, and far from it.
func edges() []int {
	return []int{math.MinInt, math.MinInt + 1, math.MinInt + top, -1 << 62, -1 << 32, -top, -long, -2, -1, 0, 1, 2, 3, 4, 5, 7, 8, 9, 10, 11, 19, 20, 21, 31, 32, 33, long - 1, long, long + 1, 20 + long, 21 + long, top - 1, top, top + 1, 1 << 32, 1 << 38, 1 << 40, 1<<40 + 1, 1 << 62, math.MaxInt - top, math.MaxInt - long, math.MaxInt - 1, math.MaxInt}
}

// far are the numbers whose sums, differences and products deceive.
func far() []int {
	return []int{math.MinInt, math.MinInt + 1, -1 << 62, -1, 0, 1, 1 << 59, 1 << 62, math.MaxInt - 1, math.MaxInt}
}

// places are all numbers of a state.
func places(s *api.State) []*int {
	l := []*int{&s.D.In.Base, &s.D.In.Bits, &s.D.Out.Base, &s.D.Out.Bits, &s.D.Lo, &s.D.Hi, &s.D.Dyn, &s.D.Block, &s.P.Quota, &s.P.Idle, &s.P.Hold, &s.Now}
	for i := range s.Pools {
		l = append(l, &s.Pools[i].From, &s.Pools[i].N, &s.Pools[i].St)
	}
	for i := range s.L {
		l = append(l, &s.L[i].Sub, &s.L[i].Addr, &s.L[i].Blk, &s.L[i].From, &s.L[i].Last)
	}
	for i := range s.H {
		l = append(l, &s.H[i].Addr, &s.H[i].Blk, &s.H[i].Till)
	}
	return l
}

// eventPlaces are all numbers of an event.
func eventPlaces(e *api.Event) []*int {
	return []*int{&e.Kind, &e.At, &e.A, &e.B, &e.C, &e.P.Quota, &e.P.Idle, &e.P.Hold}
}

func grant(at, sub, addr, blk int) api.Event {
	return api.Event{Kind: api.EvGrant, At: at, A: sub, B: addr, C: blk}
}

func free(at, sub, addr, blk int) api.Event {
	return api.Event{Kind: api.EvFree, At: at, A: sub, B: addr, C: blk}
}

func add(at, from, n int) api.Event { return api.Event{Kind: api.EvAdd, At: at, A: from, B: n} }
func drain(at, k int) api.Event     { return api.Event{Kind: api.EvDrain, At: at, A: k} }
func size(at, k, n int) api.Event   { return api.Event{Kind: api.EvSize, At: at, A: k, B: n} }
func gone(at, k int) api.Event      { return api.Event{Kind: api.EvGone, At: at, A: k} }

func policy(at, quota, idle, hold int, pair bool) api.Event {
	return api.Event{Kind: api.EvPolicy, At: at, P: api.Policy{Quota: quota, Idle: idle, Hold: hold, Pair: pair}}
}

// list is a list of those.
func list(l ...api.Event) []api.Event { return l }

// order is -1, 0 or 1 as a block stands ahead of another one, is the same, or stands behind it.
func order(a, b block) int {
	return cmp.Or(cmp.Compare(a.at, b.at), cmp.Compare(a.blk, b.blk))
}

// stateOf tells what the pool of an address does; -1 if no pool has it.
func stateOf(l []api.Pool, at int) int {
	for _, p := range l {
		for i := range p.N {
			if p.From+i == at {
				return p.St
			}
		}
	}
	return -1
}

// baseOf is the address of a subscriber's Base; -1 if it is no subscriber.
func baseOf(d api.Det, sub int) int {
	subs, outs := addr.Size(d.In), addr.Size(d.Out)
	if sub < 0 || sub >= subs {
		return -1
	}
	each := subs / outs
	if subs%outs > 0 {
		each++
	}
	return sub / each
}

// whyNot are the conditions of a state that may be that one breaks, each once.
func whyNot(s api.State) []string {
	var why []string
	must := func(what string, holds bool) {
		if !holds && !slices.Contains(why, what) {
			why = append(why, what)
		}
	}
	must("D fits", detmap.Fit(s.D))
	must("P may be", alloc.MayPolicy(s.P))
	must("Now is from 0 to 2^30", s.Now >= 0 && s.Now <= 1073741824)
	must("Pools may be", pool.May(s.Pools, addr.Size(s.D.Out)))
	if len(why) > 0 {
		return why
	}
	had := map[block]int{}
	each := map[int]int{}
	for k, x := range s.L {
		b := block{x.Addr, x.Blk}
		had[b]++
		each[x.Sub]++
		must("leases stand in order", k == 0 || order(b, block{s.L[k-1].Addr, s.L[k-1].Blk}) > 0)
		must("Sub is one", baseOf(s.D, x.Sub) >= 0)
		must("Addr is a pool's", stateOf(s.Pools, x.Addr) >= 0)
		must("Blk is one", x.Blk >= 0 && x.Blk < s.D.Dyn/s.D.Block)
		must("From is 0 at least", x.From >= 0)
		must("Last is no less than From", x.Last >= x.From)
		must("Now is no less than Last", s.Now >= x.Last)
		must("Last and Idle are above Now", x.Last > s.Now-s.P.Idle)
		must("Quota", each[x.Sub] <= s.P.Quota)
		must("Pair", !s.P.Pair || baseOf(s.D, x.Sub) == -1 || x.Addr == baseOf(s.D, x.Sub))
	}
	for k, x := range s.H {
		b := block{x.Addr, x.Blk}
		must("what is held stands in order", k == 0 || order(b, block{s.H[k-1].Addr, s.H[k-1].Blk}) > 0)
		must("what is held is of a block", x.Addr >= 0 && x.Addr < addr.Size(s.D.Out) && x.Blk >= 0 && x.Blk < s.D.Dyn/s.D.Block)
		must("what is held is not had", had[b] == 0)
		must("Till is above Now", x.Till > s.Now)
		must("Till is at most Now and 2^20", x.Till <= s.Now+1048576)
	}
	return why
}

// named is a state, and a name for it.
type named struct {
	why string
	s   api.State
}

// bads are states that may not be, each for the one condition that it is named by.
func bads() []named {
	var l []named
	add := func(why string, s api.State, change func(s *api.State)) {
		l = append(l, named{why, with(s, change)})
	}
	add("D fits", empty(), func(s *api.State) { s.D.Lo = 0 })
	add("D fits", empty(), func(s *api.State) { s.D.Out = s.D.In })
	add("P may be", some(), func(s *api.State) { s.P.Quota = 9 })
	add("P may be", some(), func(s *api.State) { s.P.Idle = long + 1 })
	add("P may be", empty(), func(s *api.State) { s.P.Idle = 0 })
	add("P may be", some(), func(s *api.State) { s.P.Hold = -1 })
	add("P may be", some(), func(s *api.State) { s.P.Hold = long + 1 })
	add("Now is from 0 to 2^30", empty(), func(s *api.State) { s.Now = -1 })
	add("Now is from 0 to 2^30", empty(), func(s *api.State) { s.Now = top + 1 })
	add("Pools may be", empty(), func(s *api.State) { s.Pools = []api.Pool{{From: 0, N: 3}} })
	add("Pools may be", some(), func(s *api.State) { s.Pools[1].From = 0 })
	add("Pools may be", some(), func(s *api.State) { s.Pools[1].St = 2 })
	add("leases stand in order", some(), func(s *api.State) { s.L[0], s.L[1] = s.L[1], s.L[0] })
	add("leases stand in order", some(), func(s *api.State) { s.L[2].Blk = 0 })
	add("leases stand in order", full(), func(s *api.State) { s.L[30], s.L[31] = s.L[31], s.L[30] })
	add("Sub is one", some(), func(s *api.State) { s.L[0].Sub = 4 })
	add("Sub is one", some(), func(s *api.State) { s.L[2].Sub = -1 })
	add("Addr is a pool's", some(), func(s *api.State) { s.Pools = s.Pools[1:] })
	add("Addr is a pool's", some(), func(s *api.State) { s.L[2].Addr = 2 })
	add("Addr is a pool's", some(), func(s *api.State) { s.L[0].Addr = -1 })
	add("Blk is one", some(), func(s *api.State) { s.L[0].Blk = 3 })
	add("Blk is one", some(), func(s *api.State) { s.L[1].Blk = -1 })
	add("From is 0 at least", some(), func(s *api.State) { s.L[2].From = -1 })
	add("Last is no less than From", some(), func(s *api.State) { s.L[1].Last = 19 })
	add("Now is no less than Last", some(), func(s *api.State) { s.L[1].Last = 21 })
	add("Last and Idle are above Now", some(), func(s *api.State) { s.L[2].Last = 10 })
	add("Last and Idle are above Now", some(), func(s *api.State) { s.P.Idle = 9 })
	add("Quota", some(), func(s *api.State) { s.P.Quota, s.L[2].Sub = 1, 3 })
	add("Pair", some(), func(s *api.State) { s.P.Pair, s.L[0].Sub = true, 2 })
	add("Pair", full(), func(s *api.State) { s.L[7].Sub, s.L[8].Sub = 8, 7 })
	add("what is held stands in order", some(), func(s *api.State) { s.H[0], s.H[1] = s.H[1], s.H[0] })
	add("what is held stands in order", some(), func(s *api.State) { s.H[1] = s.H[0] })
	add("what is held is of a block", some(), func(s *api.State) { s.H[1].Blk = 3 })
	add("what is held is of a block", some(), func(s *api.State) { s.H[0].Addr = -1 })
	add("what is held is not had", some(), func(s *api.State) { s.H[0].Blk = 1 })
	add("Till is above Now", some(), func(s *api.State) { s.H[0].Till = 20 })
	add("Till is at most Now and 2^20", some(), func(s *api.State) { s.H[1].Till++ })
	return l
}

// badEvents are events that may not be, each for one part alone, at a tick.
func badEvents(at int) []api.Event {
	l := list(
		grant(-1, 0, 0, 0), grant(top+1, 0, 0, 0), drain(-1, 0), gone(top+1, 0), grant(math.MinInt, 0, 0, 0), grant(math.MaxInt, 0, 0, 0),
		grant(at, -1, 0, 0), grant(at, 32, 0, 0), grant(at, 0, -1, 0), grant(at, 0, 4, 0), grant(at, 0, 0, -1), grant(at, 0, 0, 8),
		free(at, -1, 0, 0), free(at, 32, 0, 0), free(at, 0, -1, 0), free(at, 0, 4, 0), free(at, 0, 0, -1), free(at, 0, 0, 8),
		add(at, -1, 1), add(at, 4, 1), add(at, 0, 0), add(at, 0, 5), drain(at, -1), drain(at, 3), size(at, -1, 1), size(at, 3, 1), size(at, 0, 0), size(at, 0, 5), gone(at, -1), gone(at, 3),
		policy(at, 0, 1, 0, false), policy(at, 9, 1, 0, false), policy(at, 1, 0, 0, false), policy(at, 1, long+1, 0, false), policy(at, 1, 1, -1, false), policy(at, 1, 1, long+1, true),
		api.Event{Kind: -1, At: at}, api.Event{Kind: 7, At: at}, api.Event{Kind: math.MinInt, At: at}, api.Event{Kind: math.MaxInt, At: at})
	for _, e := range list(add(at, 1, 1), drain(at, 0), size(at, 0, 1), gone(at, 0), policy(at, 2, 10, 5, false)) {
		e.C = 1
		l = append(l, e)
		if e.C = 0; e.B == 0 {
			e.B = 1
			l = append(l, e)
		}
	}
	for _, e := range list(grant(at, 1, 0, 2), free(at, 0, 0, 1), add(at, 1, 1), drain(at, 0), size(at, 0, 1), gone(at, 0)) {
		e.P = api.Policy{Quota: 2, Idle: 10, Hold: 5}
		l = append(l, e)
		e.P = api.Policy{Pair: true}
		l = append(l, e)
	}
	return append(l, api.Event{Kind: api.EvPolicy, At: at, A: 1, P: api.Policy{Quota: 2, Idle: 10, Hold: 5}})
}

// events are events that may be, of all kinds, at a tick: all of pools, those of every block had and held, and of others.
func events(s api.State, at int) []api.Event {
	var l []api.Event
	blocks := []block{{0, 0}, {0, 2}, {1, 0}, {1, 2}, {3, 7}, {2, 0}}
	for _, x := range s.L {
		blocks = append(blocks, block{x.Addr, x.Blk})
	}
	for _, x := range s.H {
		blocks = append(blocks, block{x.Addr, x.Blk})
	}
	for i, b := range blocks {
		for _, sub := range []int{0, 1, 2, 3, i % 32, 31} {
			l = append(l, grant(at, sub, b.at, b.blk), free(at, sub, b.at, b.blk))
		}
	}
	for _, x := range s.L {
		l = append(l, free(at, x.Sub, x.Addr, x.Blk), free(at, x.Sub, x.Addr, (x.Blk+1)%8), free(at, (x.Sub+1)%32, x.Addr, x.Blk))
	}
	for k := range 3 {
		l = append(l, drain(at, k), gone(at, k), size(at, k, 1), size(at, k, 2), size(at, k, 3), size(at, k, 4))
	}
	for from := range 4 {
		l = append(l, add(at, from, 1), add(at, from, 2), add(at, from, 3), add(at, from, 4))
	}
	for _, pair := range []bool{false, true} {
		for quota := 1; quota <= 8; quota += 1 + quota/3 {
			l = append(l, policy(at, quota, s.P.Idle, s.P.Hold, pair), policy(at, quota, 1, 0, pair), policy(at, quota, long, long, pair))
		}
	}
	return l
}

// blocksAll are all grants and releases that may be, at a tick.
func blocksAll(at int) []api.Event {
	var l []api.Event
	for i := range 32 * 4 * 8 {
		l = append(l, grant(at, i/32, i/8%4, i%8), free(at, i/32, i/8%4, i%8))
	}
	return l
}

// otherSettle tells what Settle is to answer.
func otherSettle(s api.State, now int) (api.State, bool) {
	then := own(s)
	if !alloc.May(s) || now < s.Now || now > 1073741824 {
		return then, false
	}
	then.Now = now
	for i := range then.L {
		then.L[i].Last = now
	}
	then.H = slices.DeleteFunc(then.H, func(x api.Held) bool { return x.Till <= now })
	return then, true
}

// otherApply tells what Apply is to answer.
func otherApply(s api.State, e api.Event) (api.State, api.Errno) {
	if !alloc.May(s) || !event.May(e) {
		return own(s), 1
	}
	then, is := otherSettle(s, e.At)
	if !is {
		return own(s), 10
	}
	if !happen(&then, e) || !alloc.May(then) {
		return own(s), 2
	}
	return then, 0
}

// happen has an event happen to a state; false if it is not so as it says.
func happen(s *api.State, e api.Event) bool {
	outs, wrong := addr.Size(s.D.Out), api.OK
	k := slices.IndexFunc(s.L, func(x api.Lease) bool { return x.Addr == e.B && x.Blk == e.C })
	var busy []int
	for _, x := range s.L {
		busy = append(busy, x.Addr)
	}
	switch e.Kind {
	case 0:
		s.L = append(s.L, api.Lease{Sub: e.A, Addr: e.B, Blk: e.C, From: e.At, Last: e.At})
		slices.SortFunc(s.L, func(x, y api.Lease) int { return order(block{x.Addr, x.Blk}, block{y.Addr, y.Blk}) })
		return k == -1
	case 1:
		if k == -1 || s.L[k].Sub != e.A {
			return false
		}
		s.L = slices.Delete(s.L, k, k+1)
		if s.P.Hold > 0 {
			s.H = append(s.H, api.Held{Addr: e.B, Blk: e.C, Till: e.At + s.P.Hold})
			slices.SortFunc(s.H, func(x, y api.Held) int { return order(block{x.Addr, x.Blk}, block{y.Addr, y.Blk}) })
		}
	case 2:
		s.Pools, wrong = pool.Add(s.Pools, outs, e.A, e.B)
	case 3:
		s.Pools, wrong = pool.Drain(s.Pools, outs, e.A)
	case 4:
		s.Pools, wrong = pool.Size(s.Pools, outs, e.A, e.B, busy)
	case 5:
		s.Pools, wrong = pool.Gone(s.Pools, outs, e.A, busy)
	case 6:
		s.P = e.P
	}
	return wrong == 0
}

// bytesOf are the bytes of numbers, one behind the other.
func bytesOf(l ...int) []byte {
	var b []byte
	for _, n := range l {
		for ; n > 127; n >>= 7 {
			b = append(b, byte(n&127|128))
		}
		b = append(b, byte(n))
	}
	return b
}

// firstOf is the number that stands first in bytes, and how many bytes it has; 0 if none stands there.
func firstOf(b []byte) (n, size int) {
	end := slices.IndexFunc(b, func(c byte) bool { return c < 128 })
	if end < 0 || end > 5 || end > 0 && b[end] == 0 {
		return 0, 0
	}
	for i := end; i >= 0; i-- {
		n = n<<7 | int(b[i]&127)
	}
	if n > 1099511627776 {
		return 0, 0
	}
	return n, end + 1
}

// numbersOf are the numbers of bytes; false if they are no numbers', or more than 400.
func numbersOf(b []byte) ([]int, bool) {
	var l []int
	for len(b) > 0 {
		n, size := firstOf(b)
		if size == 0 {
			return nil, false
		}
		l = append(l, n)
		b = b[size:]
	}
	return l, len(l) <= 400
}

// bitsOf are numbers of so many bits.
func bitsOf(w int, l []int) []byte {
	all := new(big.Int)
	for k, n := range l {
		all.Or(all, new(big.Int).Lsh(big.NewInt(int64(n)), uint(k*w)))
	}
	b := all.FillBytes(make([]byte, (len(l)*w+7)/8))
	slices.Reverse(b)
	return b
}

// unbits are n numbers of so many bits; false if the bytes are no such ones'.
func unbits(b []byte, n, w int) ([]int, bool) {
	if n > 400 || len(b) != (n*w+7)/8 {
		return nil, false
	}
	back := slices.Clone(b)
	slices.Reverse(back)
	all := new(big.Int).SetBytes(back)
	var l []int
	for range n {
		l = append(l, int(new(big.Int).And(all, big.NewInt(1<<w-1)).Int64()))
		all.Rsh(all, uint(w))
	}
	return l, all.Sign() == 0
}

// stepsOf are a list, step by step.
func stepsOf(l []int) []byte {
	var b []byte
	at := 0
	for _, n := range l {
		k := 2 * (n - at)
		if n < at {
			k = -k - 1
		}
		b = append(b, bytesOf(k)...)
		at = n
	}
	return b
}

// unsteps are the list of so many steps; false if the bytes are no such ones'.
func unsteps(b []byte, n int) ([]int, bool) {
	l, is := numbersOf(b)
	if !is || len(l) != n {
		return nil, false
	}
	at := 0
	for i, k := range l {
		if at += k >> 1; k&1 == 1 {
			at += -(k >> 1) - (k+1)>>1
		}
		if k > 1<<39 || at < 0 || at >= 1<<38 {
			return nil, false
		}
		l[i] = at
	}
	return l, true
}

// file are the five parts of a state, each as numbers: what Put packs, and counts, is told by these.
type file struct{ head, leases, froms, helds, tills []int }

// fileOf are the numbers of a state's parts.
func fileOf(s api.State) file {
	pair := map[bool]int{false: 0, true: 1}[s.P.Pair]
	f := file{head: []int{s.D.In.Base, s.D.In.Bits, s.D.Out.Base, s.D.Out.Bits, s.D.Lo, s.D.Hi, s.D.Dyn, s.D.Block, s.P.Quota, s.P.Idle, s.P.Hold, pair, s.Now, len(s.L), len(s.H)}}
	for _, p := range s.Pools {
		f.head = append(f.head, p.From, p.N, p.St)
	}
	for _, x := range s.L {
		f.leases = append(f.leases, 32*x.Sub+8*x.Addr+x.Blk)
		f.froms = append(f.froms, x.From)
	}
	for _, x := range s.H {
		f.helds = append(f.helds, 8*x.Addr+x.Blk)
		f.tills = append(f.tills, x.Till)
	}
	return f
}

// parts are a file's parts, as bytes.
func (f file) parts() [][]byte {
	return [][]byte{bytesOf(f.head...), bitsOf(10, f.leases), stepsOf(f.froms), bitsOf(5, f.helds), stepsOf(f.tills)}
}

// bytes are a file's bytes.
func (f file) bytes() []byte { return join(f.parts()...) }

// join are parts, each behind how many bytes it has.
func join(parts ...[]byte) []byte {
	var b []byte
	for _, p := range parts {
		b = append(b, bytesOf(len(p))...)
		b = append(b, p...)
	}
	return b
}

// split are the parts of bytes; false if they are no parts'.
func split(b []byte) ([][]byte, bool) {
	var l [][]byte
	for len(b) > 0 {
		n, at := firstOf(b)
		if at == 0 || n > len(b)-at {
			return nil, false
		}
		l = append(l, slices.Clone(b[at:at+n]))
		b = b[at+n:]
	}
	return l, true
}

// otherPut tells what Put is to answer.
func otherPut(s api.State) ([]byte, bool) {
	if !alloc.May(s) || slices.ContainsFunc(s.L, func(x api.Lease) bool { return x.Last != s.Now }) {
		return nil, false
	}
	return fileOf(s).bytes(), true
}

// otherRead tells what Read is to answer.
func otherRead(b []byte) (api.State, bool) {
	parts, is := split(b)
	if !is || len(parts) != 5 {
		return api.State{}, false
	}
	n, is := numbersOf(parts[0])
	if !is || len(n) < 15 || len(n)%3 > 0 || n[11] > 1 {
		return api.State{}, false
	}
	leases, areLeases := unbits(parts[1], n[13], 10)
	froms, areFroms := unsteps(parts[2], n[13])
	helds, areHelds := unbits(parts[3], n[14], 5)
	tills, areTills := unsteps(parts[4], n[14])
	if !areLeases || !areFroms || !areHelds || !areTills {
		return api.State{}, false
	}
	s := api.State{
		D:   api.Det{In: api.Prefix{Base: n[0], Bits: n[1]}, Out: api.Prefix{Base: n[2], Bits: n[3]}, Lo: n[4], Hi: n[5], Dyn: n[6], Block: n[7]},
		P:   api.Policy{Quota: n[8], Idle: n[9], Hold: n[10], Pair: n[11] == 1},
		Now: n[12],
	}
	for k := 15; k < len(n); k += 3 {
		s.Pools = append(s.Pools, api.Pool{From: n[k], N: n[k+1], St: n[k+2]})
	}
	for k, x := range leases {
		s.L = append(s.L, api.Lease{Sub: x >> 5, Addr: x >> 3 & 3, Blk: x & 7, From: froms[k], Last: s.Now})
	}
	for k, x := range helds {
		s.H = append(s.H, api.Held{Addr: x >> 3, Blk: x & 7, Till: tills[k]})
	}
	if !alloc.May(s) {
		return api.State{}, false
	}
	return s, true
}

// wantSettled wants that state of Settle, or, if it is none, the same state.
func wantSettled(t *testing.T, s api.State, now int, want api.State, is bool) {
	t.Helper()
	was := own(s)
	got, ok := state.Settle(s, now)
	if ok != is || !isSame(got, want) || !isSame(s, was) {
		t.Fatalf("Settle(%v, %d): %v, %t, not %v, %t; handed in was %v", s, now, got, ok, want, is, was)
	}
}

// wantNotSettled wants that the state comes back as it was.
func wantNotSettled(t *testing.T, s api.State, now int) {
	t.Helper()
	wantSettled(t, s, now, own(s), false)
}

// wantAsOtherSettle holds Settle against the second reading of the chapter.
func wantAsOtherSettle(t *testing.T, s api.State, now int) {
	t.Helper()
	want, is := otherSettle(s, now)
	wantSettled(t, s, now, want, is)
}

// wantApplied wants what an event makes of a state.
func wantApplied(t *testing.T, s api.State, e api.Event, want api.State) {
	t.Helper()
	was := own(s)
	got, wrong := state.Apply(s, e)
	if wrong != api.OK || !isSame(got, want) || !isSame(s, was) {
		t.Fatalf("Apply(%v, %v): %v, %d, not %v; handed in was %v", s, e, got, wrong, want, was)
	}
}

// wantWrong wants an error, and the state as it was.
func wantWrong(t *testing.T, s api.State, e api.Event, want api.Errno) {
	t.Helper()
	was := own(s)
	got, wrong := state.Apply(s, e)
	if wrong != want || !isSame(got, was) || !isSame(s, was) {
		t.Fatalf("Apply(%v, %v): %v, %d, not %d", s, e, got, wrong, want)
	}
}

// wantAsOtherApply holds Apply against the second reading of the chapter; it tells what error there was.
func wantAsOtherApply(t *testing.T, s api.State, e api.Event) api.Errno {
	t.Helper()
	want, wrong := otherApply(s, e)
	if wrong == api.OK {
		wantApplied(t, s, e, want)
	} else {
		wantWrong(t, s, e, wrong)
	}
	return wrong
}

// wantAll wants what events make of a state, or an error.
func wantAll(t *testing.T, s api.State, l []api.Event, want api.State, e api.Errno) {
	t.Helper()
	was, events := own(s), slices.Clone(l)
	got, wrong := state.All(s, l)
	if wrong != e || !isSame(got, want) || !isSame(s, was) || !slices.Equal(l, events) {
		t.Fatalf("All(%v, %v): %v, %d, not %v, %d", s, l, got, wrong, want, e)
	}
}

// wantPut wants bytes, and that these are read as the state again.
func wantPut(t *testing.T, s api.State, want []byte) {
	t.Helper()
	was := own(s)
	if b, is := state.Put(s); !is || !bytes.Equal(b, want) || !isSame(s, was) {
		t.Fatalf("Put(%v): %v, %t, not %v", s, b, is, want)
	}
	wantRead(t, want, s)
}

func wantNotPut(t *testing.T, s api.State) {
	t.Helper()
	if b, is := state.Put(s); is || len(b) != 0 {
		t.Fatalf("Put(%v): %v, %t", s, b, is)
	}
}

// wantAsOtherPut holds Put against the second reading of the chapter.
func wantAsOtherPut(t *testing.T, s api.State) {
	t.Helper()
	if b, is := otherPut(s); is {
		wantPut(t, s, b)
	} else {
		wantNotPut(t, s)
	}
}

func wantRead(t *testing.T, b []byte, want api.State) {
	t.Helper()
	was := slices.Clone(b)
	if s, is := state.Read(b); !is || !isSame(s, want) || !bytes.Equal(b, was) {
		t.Fatalf("Read(%v): %v, %t, not %v", b, s, is, want)
	}
}

func wantNotRead(t *testing.T, b []byte) {
	t.Helper()
	was := slices.Clone(b)
	if s, is := state.Read(b); is || !isSame(s, api.State{}) || !bytes.Equal(b, was) {
		t.Fatalf("Read(%v): %v, %t", b, s, is)
	}
}

// wantAsOtherRead holds Read against the second reading of the chapter; it tells whether there was a state.
func wantAsOtherRead(t *testing.T, b []byte) bool {
	t.Helper()
	s, is := otherRead(b)
	if is {
		wantRead(t, b, s)
		if again, put := state.Put(s); !put || !bytes.Equal(again, b) {
			t.Fatalf("Put(%v): %v, %t, not %v", s, again, put, b)
		}
	} else {
		wantNotRead(t, b)
	}
	return is
}

// settled is a state, settled at its own tick.
func settled(s api.State) api.State {
	s, _ = otherSettle(s, s.Now)
	return s
}

// The states of these tests are what they are taken for.
func TestStatesMayBe(t *testing.T) {
	for _, s := range states() {
		if why := whyNot(s); len(why) > 0 || !alloc.May(s) {
			t.Fatalf("%v breaks %v", s, why)
		}
	}
	for _, x := range bads() {
		if why := whyNot(x.s); !slices.Equal(why, []string{x.why}) || alloc.May(x.s) {
			t.Fatalf("%v breaks %v, not %s alone", x.s, why, x.why)
		}
	}
	for _, e := range badEvents(20) {
		if event.May(e) {
			t.Fatalf("%v may be", e)
		}
	}
	for _, s := range states() {
		for _, e := range append(events(s, s.Now), blocksAll(s.Now)...) {
			if !event.May(e) {
				t.Fatalf("%v may not be", e)
			}
		}
	}
}

func TestP15_1Settle(t *testing.T) {
	at := func(now int, h ...api.Held) api.State {
		return with(some(), func(s *api.State) {
			s.Now, s.H = now, h
			s.L = []api.Lease{{Sub: 0, Addr: 0, Blk: 1, From: 2, Last: now}, {Sub: 3, Addr: 1, Blk: 0, From: 20, Last: now}, {Sub: 2, Addr: 1, Blk: 1, From: 0, Last: now}}
		})
	}
	first, last := api.Held{Addr: 0, Blk: 0, Till: 21}, api.Held{Addr: 1, Blk: 2, Till: 20 + long}
	wantSettled(t, some(), 20, at(20, first, last), true)
	wantSettled(t, some(), 21, at(21, last), true)
	wantSettled(t, some(), 22, at(22, last), true)
	// Long behind Idle the leases are there still.
	wantSettled(t, some(), 1000, at(1000, last), true)
	wantSettled(t, some(), 19+long, at(19+long, last), true)
	wantSettled(t, some(), 20+long, at(20+long), true)
	wantSettled(t, some(), top-1, at(top-1), true)
	wantSettled(t, some(), top, at(top), true)
	wantSettled(t, paired(), 21, with(at(21, last), func(s *api.State) { s.P.Pair = true }), true)
	for _, now := range []int{19, 18, 0, -1, math.MinInt, math.MinInt + 1, -top, top + 1, top + 2, 1 << 32, math.MaxInt - 1, math.MaxInt} {
		wantNotSettled(t, some(), now)
	}
	wantSettled(t, empty(), 20, empty(), true)
	wantSettled(t, empty(), 77, with(empty(), func(s *api.State) { s.Now = 77 }), true)
	wantNotSettled(t, empty(), 19)
	wantNotSettled(t, late(), top-1)
	wantNotSettled(t, late(), top+1)
	wantSettled(t, late(), top, with(late(), func(s *api.State) { s.L[1].Last, s.L[2].Last = top, top }), true)
}

// Every state is settled at its tick, and at each later one there is, around the ends of all that is held.
func TestP15_1SettleTicks(t *testing.T) {
	for _, s := range states() {
		ticks := append(edges(), s.Now-1, s.Now, s.Now+1, s.Now+2, s.Now+s.P.Idle, s.Now+s.P.Hold)
		for _, x := range s.H {
			ticks = append(ticks, x.Till-1, x.Till, x.Till+1)
		}
		for _, now := range ticks {
			wantAsOtherSettle(t, s, now)
			got, is := state.Settle(s, now)
			if is != (now >= s.Now && now <= top) {
				t.Fatalf("Settle(%v, %d): %t", s, now, is)
			}
			if is && (got.Now != now || got.D != s.D || got.P != s.P || !slices.Equal(got.Pools, s.Pools) || len(got.L) != len(s.L)) {
				t.Fatalf("Settle(%v, %d): %v", s, now, got)
			}
			for k, x := range got.L {
				if y := s.L[k]; is && x != (api.Lease{Sub: y.Sub, Addr: y.Addr, Blk: y.Blk, From: y.From, Last: now}) {
					t.Fatalf("Settle(%v, %d): %v", s, now, x)
				}
			}
			for _, x := range s.H {
				if is && slices.Contains(got.H, x) != (x.Till > now) {
					t.Fatalf("Settle(%v, %d): of what is held %v", s, now, x)
				}
			}
		}
	}
}

// A state that may not be is not settled, whatever the reason, at no tick.
func TestP15_1SettleWhatMayNotBe(t *testing.T) {
	for _, x := range append(bads(), named{"zero", api.State{}}) {
		for _, now := range []int{x.s.Now - 1, x.s.Now, x.s.Now + 1, x.s.Now + 20, 0, top, top + 1, math.MinInt, math.MaxInt} {
			wantNotSettled(t, x.s, now)
		}
	}
	many := with(full(), func(s *api.State) { s.L = append(s.L, s.L[31]) })
	wantNotSettled(t, many, 41)
	wantNotSettled(t, with(allHeld(), func(s *api.State) { s.H = append(s.H, s.H[31]) }), 41)
}

// One number of a state, and now, are any.
func TestP15_1SettleAnyPart(t *testing.T) {
	for _, s := range []api.State{some(), paired(), late()} {
		for i := range places(&s) {
			for _, n := range edges() {
				x := own(s)
				*places(&x)[i] = n
				for _, now := range []int{20, 21, top, math.MinInt, math.MaxInt, n - 1, n, n + 1} {
					wantAsOtherSettle(t, x, now)
				}
			}
		}
	}
}

func TestP15_2Grant(t *testing.T) {
	want := with(settled(some()), func(s *api.State) {
		s.L = slices.Insert(s.L, 1, api.Lease{Sub: 1, Addr: 0, Blk: 2, From: 20, Last: 20})
	})
	wantApplied(t, some(), grant(20, 1, 0, 2), want)
	// At 21 block 0 is held no more.
	wantWrong(t, some(), grant(20, 1, 0, 0), api.ErrForm)
	want, _ = otherSettle(some(), 21)
	want.L = slices.Insert(want.L, 0, api.Lease{Sub: 1, Addr: 0, Blk: 0, From: 21, Last: 21})
	wantApplied(t, some(), grant(21, 1, 0, 0), want)
	// Behind all others; of an address whose pool drains; to one that has one already.
	drained := with(some(), func(s *api.State) { s.H = nil })
	want = settled(drained)
	want.L = append(want.L, api.Lease{Sub: 2, Addr: 1, Blk: 2, From: 20, Last: 20})
	wantApplied(t, drained, grant(20, 2, 1, 2), want)
	// Of any block that can be had, not only of the least.
	want = with(empty(), func(s *api.State) {
		s.Now, s.Pools, s.L = top, []api.Pool{{From: 1, N: 1}}, []api.Lease{{Sub: 0, Addr: 1, Blk: 2, From: top, Last: top}}
	})
	wantApplied(t, with(empty(), func(s *api.State) { s.Pools = []api.Pool{{From: 1, N: 1}} }), grant(top, 0, 1, 2), want)
}

// The 32nd lease is granted; a 33rd there is none.
func TestP15_2GrantAll(t *testing.T) {
	s := with(full(), func(s *api.State) { s.L = nil })
	for i := range 32 {
		k := (i*13 + 5) % 32
		s.Now = 40 + i
		then, e := state.Apply(s, grant(40+i, k, k/8, k%8))
		if e != api.OK || len(then.L) != i+1 {
			t.Fatalf("%d: %v, %d", i, then, e)
		}
		wantAsOtherApply(t, s, grant(40+i, k, k/8, k%8))
		s = then
	}
	for _, e := range blocksAll(80)[:400] {
		if e.Kind == api.EvGrant {
			wantWrong(t, s, e, api.ErrForm)
			wantWrong(t, with(s, func(s *api.State) { s.P.Quota, s.P.Pair = 8, false }), e, api.ErrForm)
		}
	}
}

func TestP15_2Free(t *testing.T) {
	for _, x := range []struct{ hold, at, till int }{{0, 20, 0}, {1, 20, 21}, {2, 20, 22}, {5, 20, 25}, {long, 20, 20 + long}, {0, 35, 0}, {1, 35, 36}, {5, 35, 40}, {1, top, top + 1}, {long, top, top + long}} {
		s := with(some(), func(s *api.State) { s.P.Hold = x.hold })
		want, _ := otherSettle(s, x.at)
		mine := want.L[1]
		want.L = slices.Delete(want.L, 1, 2)
		if x.hold > 0 {
			held := api.Held{Addr: mine.Addr, Blk: mine.Blk, Till: x.till}
			want.H = slices.Insert(want.H, len(want.H)-max(0, min(1, 20+long-x.at)), held)
		}
		wantApplied(t, s, free(x.at, 3, 1, 0), want)
	}
	// It goes long behind Idle, at the tick that is told, and is held from there on.
	want := with(one(), func(s *api.State) {
		s.Now, s.L, s.H = 500, nil, []api.Held{{Addr: 1, Blk: 1, Till: 505}}
	})
	wantApplied(t, one(), free(500, 2, 1, 1), want)
}

// reason is why an event makes nothing of a state: changed so, or by another event in its place, it makes one.
type reason struct {
	why  string
	s    api.State
	e    api.Event
	mend func(s *api.State)
}

// reasons are events that are not so as said, each for one reason alone.
func reasons() []reason {
	roomy := with(some(), func(s *api.State) { s.H = nil })
	four := with(empty(), func(s *api.State) {
		s.D, s.Pools = mapping(30, 30, 2), []api.Pool{{From: 0, N: 1}, {From: 2, N: 1}}
		s.L = []api.Lease{{Sub: 0, Addr: 2, Blk: 1, From: 20, Last: 20}}
	})
	three := with(four, func(s *api.State) { s.Pools = append(s.Pools, api.Pool{From: 3, N: 1}) })
	wide := with(four, func(s *api.State) { s.Pools = []api.Pool{{From: 0, N: 1}, {From: 1, N: 2}} })
	drained := with(four, func(s *api.State) { s.Pools[0].St, s.Pools[1].St = api.Drains, api.Drains })
	return []reason{
		{"the block is had by another one", roomy, grant(20, 1, 0, 1), func(s *api.State) { s.L = s.L[1:] }},
		{"the block is had by itself", roomy, grant(20, 0, 0, 1), func(s *api.State) { s.L = s.L[1:] }},
		{"the block is held", some(), grant(20, 1, 0, 0), func(s *api.State) { s.H = s.H[1:] }},
		{"the block is held still", some(), grant(19+long, 1, 1, 2), func(s *api.State) { s.H[1].Till-- }},
		{"no pool has the address", with(one(), func(s *api.State) { s.Pools = s.Pools[1:] }), grant(20, 1, 0, 2), func(s *api.State) { s.Pools = some().Pools }},
		{"Quota", with(roomy, func(s *api.State) { s.P.Quota = 1 }), grant(20, 0, 0, 2), func(s *api.State) { s.P.Quota = 2 }},
		{"Quota", with(roomy, func(s *api.State) { s.P.Quota = 1 }), grant(20, 0, 0, 2), func(s *api.State) { s.L = s.L[1:] }},
		{"Pair", with(roomy, func(s *api.State) { s.P.Pair = true }), grant(20, 2, 0, 2), func(s *api.State) { s.P.Pair = false }},
		{"Pair", with(roomy, func(s *api.State) { s.P.Pair = true }), grant(20, 1, 1, 2), func(s *api.State) { s.P.Pair = false }},
		{"no such block", roomy, grant(20, 1, 0, 3), func(s *api.State) { s.D.Dyn = 40 }},
		{"no such address", roomy, grant(20, 1, 2, 0), func(s *api.State) { s.D, s.Pools = mapping(30, 30, 3), append(s.Pools, api.Pool{From: 2, N: 1}) }},
		{"no such subscriber", roomy, grant(20, 4, 0, 2), func(s *api.State) { s.D.In.Bits = 29 }},
		{"nobody has it", roomy, free(20, 0, 0, 2), func(s *api.State) { s.L[0].Blk = 2 }},
		{"nobody has it, it is held", some(), free(20, 0, 0, 0), func(s *api.State) { s.L[0].Blk, s.H = 0, nil }},
		{"no such block", roomy, free(20, 0, 3, 7), func(s *api.State) {
			s.D, s.Pools, s.L = most(), []api.Pool{{From: 3, N: 1}}, []api.Lease{{Sub: 0, Addr: 3, Blk: 7, From: 20, Last: 20}}
		}},
		{"another one has it", roomy, free(20, 1, 0, 1), func(s *api.State) { s.L[0].Sub = 1 }},
		{"another one has it", roomy, free(20, 0, 1, 1), func(s *api.State) { s.L[2].Sub = 0 }},
		{"a pool has it", four, add(20, 0, 1), func(s *api.State) { s.Pools = s.Pools[1:] }},
		{"a pool has the last of them", four, add(20, 1, 2), func(s *api.State) { s.Pools, s.L = s.Pools[:1], nil }},
		{"there are three pools", three, add(20, 1, 1), func(s *api.State) { s.Pools = s.Pools[:2] }},
		{"no such address", some(), add(20, 2, 1), func(s *api.State) { s.D = mapping(30, 30, 3) }},
		{"no such address, the last of them", with(empty(), func(s *api.State) {}), add(20, 1, 2), func(s *api.State) { s.D = mapping(30, 30, 3) }},
		{"no such pool", four, drain(20, 2), func(s *api.State) { s.Pools = append(s.Pools, api.Pool{From: 1, N: 1}) }},
		{"it drains", some(), drain(20, 1), func(s *api.State) { s.Pools[1].St = api.Active }},
		{"no such pool", four, size(20, 2, 1), func(s *api.State) { s.Pools = append(s.Pools, api.Pool{From: 1, N: 1}) }},
		{"no such address", four, size(20, 1, 3), func(s *api.State) { s.Pools[1].From, s.L[0].Addr = 1, 1 }},
		{"another one has it", four, size(20, 0, 3), func(s *api.State) { s.Pools, s.L = s.Pools[:1], nil }},
		{"it is busy", wide, size(20, 1, 1), func(s *api.State) { s.L[0].Addr = 1 }},
		{"no such pool", four, gone(20, 2), func(s *api.State) { s.Pools = append(s.Pools, api.Pool{From: 1, N: 1, St: api.Drains}) }},
		{"it does not drain", four, gone(20, 0), func(s *api.State) { s.Pools[0].St = api.Drains }},
		{"it is busy", drained, gone(20, 1), func(s *api.State) { s.L = nil }},
		{"Quota", half(), policy(40, 3, long, 1, false), func(s *api.State) { s.L = s.L[4:] }},
		{"Pair", half(), policy(40, 8, long, 1, true), func(s *api.State) { s.L = nil }},
		{"Pair, of one", with(roomy, func(s *api.State) { s.L[0].Sub = 3 }), policy(20, 2, 10, 5, true), func(s *api.State) { s.L[0].Sub = 0 }},
	}
}

// An event that is not so as said is ErrForm; where the one reason is mended, it makes a state.
func TestP15_2NotSo(t *testing.T) {
	for _, x := range reasons() {
		if !alloc.May(x.s) {
			t.Fatalf("%s: %v breaks %v", x.why, x.s, whyNot(x.s))
		}
		wantWrong(t, x.s, x.e, api.ErrForm)
		mended := with(x.s, x.mend)
		want, e := otherApply(mended, x.e)
		if e != api.OK {
			t.Fatalf("%s: mended it is %v, and %v is %d", x.why, mended, x.e, e)
		}
		wantApplied(t, mended, x.e, want)
	}
}

func TestP15_2Pools(t *testing.T) {
	s := with(empty(), func(s *api.State) {
		s.D, s.Now = mapping(30, 30, 2), 3
	})
	step := func(e api.Event, pools ...api.Pool) {
		t.Helper()
		want, is := otherSettle(s, e.At)
		want.Pools = pools
		if !is {
			t.Fatalf("%v: not from %d", e, s.Now)
		}
		wantApplied(t, s, e, want)
		s = want
	}
	step(add(3, 1, 2), api.Pool{From: 1, N: 2})
	step(add(4, 0, 1), api.Pool{From: 1, N: 2}, api.Pool{From: 0, N: 1})
	step(drain(4, 0), api.Pool{From: 1, N: 2, St: api.Drains}, api.Pool{From: 0, N: 1})
	step(size(5, 0, 1), api.Pool{From: 1, N: 1, St: api.Drains}, api.Pool{From: 0, N: 1})
	step(size(5, 0, 3), api.Pool{From: 1, N: 3, St: api.Drains}, api.Pool{From: 0, N: 1})
	wantWrong(t, s, size(6, 0, 4), api.ErrForm)
	wantWrong(t, s, size(6, 1, 2), api.ErrForm)
	wantWrong(t, s, add(6, 3, 1), api.ErrForm)
	wantWrong(t, s, gone(6, 1), api.ErrForm)
	// With leases in it, a pool is made smaller down to the last that is busy, and does not go.
	s.L = []api.Lease{{Sub: 0, Addr: 0, Blk: 0, From: 5, Last: 5}, {Sub: 3, Addr: 2, Blk: 1, From: 5, Last: 5}}
	wantWrong(t, s, size(6, 0, 1), api.ErrForm)
	wantWrong(t, s, gone(6, 0), api.ErrForm)
	step(size(7, 0, 2), api.Pool{From: 1, N: 2, St: api.Drains}, api.Pool{From: 0, N: 1})
	step(drain(9, 1), api.Pool{From: 1, N: 2, St: api.Drains}, api.Pool{From: 0, N: 1, St: api.Drains})
	wantWrong(t, s, gone(9, 1), api.ErrForm)
	// What is held does not keep a pool.
	s.L, s.H = s.L[1:], []api.Held{{Addr: 0, Blk: 0, Till: 12}}
	step(gone(11, 1), api.Pool{From: 1, N: 2, St: api.Drains})
	if len(s.H) != 1 || len(s.L) != 1 || s.L[0].Last != 11 {
		t.Fatal(s)
	}
	s.L = nil
	step(gone(12, 0))
	step(add(top, 0, 4), api.Pool{From: 0, N: 4})
}

func TestP15_2Policy(t *testing.T) {
	for _, x := range []struct {
		quota, idle, hold int
		pair              bool
	}{{1, 10, 5, false}, {2, 10, 5, false}, {8, long, long, true}, {1, 1, 0, true}, {2, 9, 5, false}, {2, 1, 5, false}, {2, 10, 0, false}, {2, 10, 4, false}, {2, 10, 6, false}, {2, long, 5, false}, {2, 10, long, false}} {
		for _, at := range []int{20, 21, 400, top} {
			e := policy(at, x.quota, x.idle, x.hold, x.pair)
			want, _ := otherSettle(some(), at)
			want.P = e.P
			wantApplied(t, some(), e, want)
		}
	}
	// What is held stays, whatever Hold becomes; what is freed is held by the new one.
	got, e := state.All(some(), list(policy(20, 2, 10, 0, false), free(20, 0, 0, 1), policy(20, 2, 10, 1, false), free(20, 3, 1, 0)))
	if e != api.OK || !slices.Equal(got.H, []api.Held{{Addr: 0, Blk: 0, Till: 21}, {Addr: 1, Blk: 0, Till: 21}, {Addr: 1, Blk: 2, Till: 20 + long}}) {
		t.Fatal(got, e)
	}
	for _, quota := range []int{1, 2, 3} {
		wantWrong(t, half(), policy(40, quota, long, 1, false), api.ErrForm)
	}
	for _, quota := range []int{4, 5, 8} {
		want := settled(half())
		want.P = api.Policy{Quota: quota, Idle: 1}
		wantApplied(t, half(), policy(40, quota, 1, 0, false), want)
	}
}

// An event is one at the state's tick, or at a later one.
func TestP15_2Ticks(t *testing.T) {
	for _, s := range []api.State{empty(), some(), one(), late(), paired(), with(empty(), func(s *api.State) { s.Now = 0 })} {
		for _, e := range events(s, 0) {
			for _, at := range append(edges(), s.Now-1, s.Now, s.Now+1) {
				e.At = at
				got := wantAsOtherApply(t, s, e)
				if (at < 0 || at > top) != (got == api.ErrArg) || (at >= 0 && at < s.Now) != (got == api.ErrClock) {
					t.Fatalf("Apply(%v, %v): %d", s, e, got)
				}
			}
		}
	}
	wantWrong(t, some(), grant(19, 1, 0, 2), api.ErrClock)
	wantWrong(t, some(), grant(0, 1, 0, 2), api.ErrClock)
	wantWrong(t, some(), grant(top+1, 1, 0, 2), api.ErrArg)
	wantWrong(t, some(), grant(-1, 1, 0, 2), api.ErrArg)
	for _, at := range []int{20, 21, top - 1, top} {
		want, _ := otherSettle(some(), at)
		want.L = slices.Insert(want.L, 1, api.Lease{Sub: 1, Addr: 0, Blk: 2, From: at, Last: at})
		wantApplied(t, some(), grant(at, 1, 0, 2), want)
	}
}

// Of a state that may not be nothing is made, nor by an event that may not be.
func TestP15_2WhatMayNotBe(t *testing.T) {
	for _, x := range append(bads(), named{"zero", api.State{}}) {
		for _, at := range []int{0, x.s.Now - 1, x.s.Now, x.s.Now + 1, x.s.Now + 20, top} {
			for _, e := range list(grant(at, 1, 0, 2), free(at, 0, 0, 1), add(at, 0, 1), drain(at, 0), size(at, 0, 1), gone(at, 1), policy(at, 2, 10, 5, false)) {
				wantWrong(t, x.s, e, api.ErrArg)
			}
		}
	}
	for _, s := range states() {
		for _, at := range []int{s.Now, s.Now + 1, top} {
			for _, e := range badEvents(at) {
				wantWrong(t, s, e, api.ErrArg)
			}
		}
	}
}

// ErrArg goes ahead of ErrClock, and ErrClock ahead of ErrForm.
func TestP15_2FirstError(t *testing.T) {
	for _, e := range badEvents(19) {
		wantWrong(t, some(), e, api.ErrArg)
	}
	for _, x := range bads() {
		for _, e := range list(grant(0, 1, 0, 1), free(0, 1, 0, 1), drain(0, 2), gone(0, 0)) {
			wantWrong(t, x.s, e, api.ErrArg)
		}
		for _, e := range badEvents(0) {
			wantWrong(t, x.s, e, api.ErrArg)
		}
	}
	for _, x := range reasons() {
		for _, at := range []int{0, x.s.Now - 1} {
			x.e.At = at
			wantWrong(t, x.s, x.e, api.ErrClock)
		}
	}
}

// Each kind is answered by the document's words, in all states; each error of each kind is met.
func TestP15_2All(t *testing.T) {
	found := map[[2]int]int{}
	for _, s := range states() {
		for _, at := range []int{s.Now - 1, s.Now, s.Now + 1, s.Now + 4, top} {
			for _, e := range events(s, at) {
				found[[2]int{e.Kind, int(wantAsOtherApply(t, s, e))}]++
			}
		}
	}
	for _, s := range []api.State{some(), paired(), one(), full(), allHeld(), half()} {
		for i, e := range blocksAll(s.Now) {
			if len(s.L) < 4 || i%7 == 0 {
				found[[2]int{e.Kind, int(wantAsOtherApply(t, s, e))}]++
			}
		}
	}
	for kind := range 7 {
		for _, e := range []api.Errno{api.OK, api.ErrForm, api.ErrClock} {
			if found[[2]int{kind, int(e)}] == 0 {
				t.Fatalf("no %d of kind %d", e, kind)
			}
		}
	}
}

// One number of an event is any, and one of the state, and then two.
func TestP15_2AnyPart(t *testing.T) {
	s := some()
	all := list(grant(21, 1, 0, 2), free(21, 0, 0, 1), add(21, 1, 1), drain(21, 0), size(21, 0, 1), gone(21, 1), policy(21, 2, 10, 5, false))
	for _, e := range all {
		for i := range eventPlaces(&e) {
			for _, n := range edges() {
				x := e
				*eventPlaces(&x)[i] = n
				wantAsOtherApply(t, s, x)
			}
			for j := range i {
				for _, n := range far() {
					for _, m := range far() {
						x := e
						*eventPlaces(&x)[i], *eventPlaces(&x)[j] = n, m
						wantAsOtherApply(t, s, x)
					}
				}
			}
		}
		for i := range places(&s) {
			for _, n := range edges() {
				x := own(s)
				*places(&x)[i] = n
				wantAsOtherApply(t, x, e)
			}
		}
	}
}

// Two numbers of a state are such that their sum, difference, or product, deceives.
func TestP1FarNumbers(t *testing.T) {
	s := settled(some())
	for i := range places(&s) {
		for j := range i {
			for _, n := range far() {
				for _, m := range far() {
					x := own(s)
					l := places(&x)
					*l[i], *l[j] = n, m
					wantAsOtherSettle(t, x, 21)
					wantAsOtherSettle(t, x, m)
					wantAsOtherApply(t, x, grant(21, 1, 0, 2))
					wantAsOtherApply(t, x, free(20, 0, 0, 1))
					wantAsOtherPut(t, x)
				}
			}
		}
	}
}

// run are events that go well, one behind the other, and what they make of some.
func run() ([]api.Event, []api.State) {
	l := list(
		grant(20, 1, 0, 2), free(20, 3, 1, 0), policy(22, 2, 12, 1, false), free(22, 0, 0, 1), drain(22, 0), grant(22, 3, 0, 0), free(23, 1, 0, 2),
		free(40, 3, 0, 0), size(41, 0, 1), gone(41, 0), add(41, 0, 1), grant(60, 0, 0, 0), grant(60, 0, 0, 1), free(top, 2, 1, 1), gone(top, 0))
	all := []api.State{some()}
	for _, x := range l {
		s, e := otherApply(all[len(all)-1], x)
		if e != api.OK {
			panic(x)
		}
		all = append(all, s)
	}
	return l, all
}

func TestP15_2AllOf(t *testing.T) {
	l, made := run()
	for i := range len(l) + 1 {
		wantAll(t, some(), l[:i], made[i], api.OK)
		for k := range i {
			// What the first ones make, and then the others.
			wantAll(t, made[k], l[k:i], made[i], api.OK)
		}
	}
	if s := made[len(l)]; s.Now != top || len(s.L) != 2 || !slices.Equal(s.H, []api.Held{{Addr: 1, Blk: 1, Till: top + 1}}) || !slices.Equal(s.Pools, []api.Pool{{From: 0, N: 1}}) || s.P.Idle != 12 {
		t.Fatal(s)
	}
}

// No events make nothing of any state: it is as it was, also if it may not be.
func TestP15_2AllOfNone(t *testing.T) {
	l := append(states(), api.State{})
	for _, x := range bads() {
		l = append(l, x.s)
	}
	for _, s := range l {
		wantAll(t, s, nil, s, api.OK)
		wantAll(t, s, []api.Event{}, s, api.OK)
	}
}

// The first event at fault tells its error, and what was handed in comes back.
func TestP15_2AllFirstError(t *testing.T) {
	l, made := run()
	for k := range len(l) + 1 {
		at := made[k].Now
		for _, x := range []struct {
			e    api.Event
			want api.Errno
		}{
			{free(at, 7, 3, 7), api.ErrForm},
			{drain(at, 2), api.ErrForm},
			{grant(at-1, 1, 0, 1), api.ErrClock},
			{free(0, 0, 0, 0), api.ErrClock},
			{grant(at, 32, 0, 0), api.ErrArg},
			{grant(top+1, 0, 0, 0), api.ErrArg},
			{api.Event{Kind: 7, At: at - 1}, api.ErrArg},
		} {
			wantAll(t, some(), slices.Insert(slices.Clone(l), k, x.e), some(), x.want)
			// One that is at fault behind it, by another error, is not told.
			for _, second := range list(drain(at, 2), grant(-1, 0, 0, 0), free(0, 0, 0, 0)) {
				wantAll(t, some(), append(slices.Insert(slices.Clone(l), k, x.e), second), some(), x.want)
				wantAll(t, some(), slices.Insert(slices.Clone(l), k, x.e, second), some(), x.want)
			}
		}
	}
	for _, x := range bads() {
		for _, l := range [][]api.Event{list(grant(x.s.Now, 1, 0, 2)), l, list(grant(-1, 0, 0, 0)), list(free(0, 0, 0, 0), free(0, 0, 0, 0))} {
			wantAll(t, x.s, l, x.s, api.ErrArg)
		}
	}
}

// Many events are held against the second reading, one behind the other; where one is at fault, all are.
func TestP15_2AllAsOther(t *testing.T) {
	chance := rand.New(rand.NewSource(5))
	for _, s := range states() {
		for range 3 {
			then, l, at := own(s), []api.Event(nil), s.Now
			for range 12 {
				at = min(top, at+chance.Intn(3))
				any := events(then, at)
				x := any[chance.Intn(len(any))]
				next, e := otherApply(then, x)
				if e != api.OK {
					wantAll(t, s, append(slices.Clone(l), x), s, e)
					wantAll(t, s, append(slices.Clone(l), x, grant(-1, 0, 0, 0)), s, e)
					continue
				}
				then, l = next, append(l, x)
				wantAll(t, s, l, then, api.OK)
			}
		}
	}
}

// written are states and their bytes, worked out by hand from the document's words.
func written() []struct {
	s api.State
	b []byte
} {
	bare := api.State{D: api.Det{In: api.Prefix{Base: 128, Bits: 32}, Out: api.Prefix{Base: 7, Bits: 32}, Lo: 1, Hi: 127, Dyn: 9, Block: 256}, P: api.Policy{Quota: 1, Idle: 1}}
	own := api.State{
		D:     api.Det{In: api.Prefix{Base: 128, Bits: 32}, Out: api.Prefix{Base: 4, Bits: 30}, Lo: 1, Hi: 127, Dyn: 16, Block: 2},
		P:     api.Policy{Quota: 1, Idle: 1, Hold: 300, Pair: true},
		Now:   130,
		Pools: []api.Pool{{From: 3, N: 1, St: 1}, {From: 0, N: 2}},
		L:     []api.Lease{{Sub: 0, Addr: 0, Blk: 5, From: 130, Last: 130}},
		H:     []api.Held{{Addr: 0, Blk: 6, Till: 131}, {Addr: 1, Blk: 7, Till: 400}, {Addr: 3, Blk: 0, Till: 399}},
	}
	return []struct {
		s api.State
		b []byte
	}{
		{bare, []byte{17, 128, 1, 32, 7, 32, 1, 127, 9, 128, 2, 1, 1, 0, 0, 0, 0, 0, 0, 0, 0, 0}},
		{own, []byte{
			24, 128, 1, 32, 4, 30, 1, 127, 16, 2, 1, 1, 172, 2, 1, 130, 1, 1, 3, 3, 1, 1, 0, 2, 0,
			2, 5, 0,
			2, 132, 2,
			// 6, and 32 times 15, and 1024 times 24.
			2, 0xe6, 0x61,
			5, 134, 2, 154, 4, 1,
		}},
		{with(own, func(s *api.State) { s.Pools, s.L, s.H = nil, nil, nil }), []byte{
			18, 128, 1, 32, 4, 30, 1, 127, 16, 2, 1, 1, 172, 2, 1, 130, 1, 0, 0,
			0, 0, 0, 0,
		}},
		{settled(some()), []byte{
			29, 128, 128, 128, 80, 30, 128, 128, 128, 88, 31, 232, 7, 207, 15, 33, 10, 2, 10, 5, 0, 20, 3, 2, 0, 1, 0, 1, 1, 1,
			// 1, and 2^10 times 104, and 2^20 times 73.
			4, 0x01, 0xa0, 0x91, 0x04,
			3, 4, 36, 39,
			2, 64, 1,
			4, 42, 254, 255, 127,
		}},
	}
}

func TestP15_3Written(t *testing.T) {
	for _, x := range written() {
		wantPut(t, x.s, x.b)
		if b := fileOf(x.s).bytes(); !bytes.Equal(b, x.b) {
			t.Fatalf("the second reading of %v: %v, not %v", x.s, b, x.b)
		}
	}
}

// A state is put if each of its leases was used at its tick.
func TestP15_3Put(t *testing.T) {
	for _, s := range states() {
		wantAsOtherPut(t, s)
		for _, now := range []int{s.Now, s.Now + 1, s.Now + 100, top} {
			if then, is := otherSettle(s, now); is {
				wantPut(t, then, fileOf(then).bytes())
			}
		}
		x := settled(s)
		for k := range x.L {
			y := own(x)
			y.L[k].From, y.L[k].Last = 0, y.Now-1
			wantAsOtherPut(t, y)
			wantNotPut(t, y)
		}
	}
	for _, s := range []api.State{some(), full(), half(), one()} {
		wantNotPut(t, s)
	}
}

// As many of each as there may be, and each number of less, with pools of all numbers, with Pair and without.
func TestP15_3PutMany(t *testing.T) {
	for leases := range 33 {
		for _, helds := range []int{0, 1, 2, 7, 8, 15, 32 - leases} {
			if leases+helds > 32 || helds < 0 {
				continue
			}
			s := settled(with(full(), func(s *api.State) {
				s.P.Pair = leases%2 == 0
				s.Pools = []api.Pool{{From: 3, N: 1, St: helds % 2}, {From: 0, N: 2}, {From: 2, N: 1, St: api.Drains}}
				for _, x := range s.L[32-helds:] {
					s.H = append(s.H, api.Held{Addr: x.Addr, Blk: x.Blk, Till: 41 + x.Sub*7919%1000})
				}
				s.L = s.L[:leases]
			}))
			wantPut(t, s, fileOf(s).bytes())
		}
	}
	for n := range 4 {
		for _, pair := range []bool{false, true} {
			s := with(empty(), func(s *api.State) {
				s.D, s.P.Pair = mapping(30, 30, 2), pair
				s.Pools = []api.Pool{{From: 2, N: 1, St: api.Drains}, {From: 0, N: 2}, {From: 3, N: 1}}[:n]
			})
			wantPut(t, s, fileOf(s).bytes())
		}
	}
}

func TestP15_3PutWhatMayNotBe(t *testing.T) {
	for _, x := range append(bads(), named{"zero", api.State{}}) {
		wantNotPut(t, x.s)
		y := own(x.s)
		for k := range y.L {
			y.L[k].Last = y.Now
		}
		if !alloc.May(y) {
			wantNotPut(t, y)
		}
		wantAsOtherPut(t, y)
	}
	wantNotPut(t, settled(with(full(), func(s *api.State) { s.L = append(s.L, s.L[31]) })))
}

// One number of a state is any.
func TestP15_3PutAnyPart(t *testing.T) {
	for _, s := range []api.State{settled(some()), settled(paired()), settled(late())} {
		for i := range places(&s) {
			for _, n := range edges() {
				x := own(s)
				*places(&x)[i] = n
				wantAsOtherPut(t, x)
			}
		}
	}
}

// files are those of states of all kinds, some with few bytes.
func files() []file {
	var l []file
	for _, s := range append(known(), met()[:40]...) {
		l = append(l, fileOf(settled(s)))
	}
	return l
}

// Bytes that are cut off anywhere, or have others behind them, are none's.
func TestP15_3ReadCut(t *testing.T) {
	for _, f := range files() {
		b := f.bytes()
		for k := range b {
			wantNotRead(t, b[:k])
			wantNotRead(t, b[k+1:])
			wantNotRead(t, slices.Delete(slices.Clone(b), k, k+1))
		}
		for n := range 256 {
			wantNotRead(t, append(slices.Clone(b), byte(n)))
		}
		wantNotRead(t, append(slices.Clone(b), b...))
	}
	wantNotRead(t, nil)
	wantNotRead(t, []byte{})
	for n := range 256 {
		wantNotRead(t, []byte{byte(n)})
		for k := range 10 {
			wantNotRead(t, slices.Repeat([]byte{byte(n)}, k))
			wantNotRead(t, slices.Repeat([]byte{byte(n)}, k*100))
		}
	}
}

// Every byte becomes every other one, or has every other one ahead of it.
func TestP15_3ReadEveryByte(t *testing.T) {
	found := 0
	for _, s := range []api.State{settled(some()), settled(late()), written()[0].s, written()[1].s} {
		b := fileOf(s).bytes()
		for k := range b {
			for n := range 256 {
				x := slices.Clone(b)
				x[k] = byte(n)
				if wantAsOtherRead(t, x) && x[k] != b[k] {
					found++
				}
				wantAsOtherRead(t, slices.Insert(slices.Clone(b), k, byte(n)))
			}
		}
	}
	if found < 500 {
		t.Fatalf("%d others are read", found)
	}
}

// Bits of larger ones are turned, one, or two.
func TestP15_3ReadTurned(t *testing.T) {
	chance := rand.New(rand.NewSource(9))
	for _, s := range states() {
		b := fileOf(settled(s)).bytes()
		for k := range b {
			x := slices.Clone(b)
			x[k] ^= 1 << chance.Intn(8)
			wantAsOtherRead(t, x)
			x[chance.Intn(len(x))] ^= 1 << chance.Intn(8)
			wantAsOtherRead(t, x)
			x[chance.Intn(len(x))] = byte(chance.Intn(256))
			wantAsOtherRead(t, x)
		}
	}
}

// A part too few, or too many, or in another's place.
func TestP15_3ReadParts(t *testing.T) {
	for _, f := range files() {
		parts := f.parts()
		for k := range parts {
			wantNotRead(t, join(parts[:k]...))
			wantNotRead(t, join(parts[k+1:]...))
			wantNotRead(t, join(slices.Delete(slices.Clone(parts), k, k+1)...))
			for _, more := range [][]byte{nil, {0}, {1}, parts[k]} {
				wantNotRead(t, join(slices.Insert(slices.Clone(parts), k, more)...))
			}
			for i := range k {
				x := slices.Clone(parts)
				x[i], x[k] = x[k], x[i]
				if !bytes.Equal(x[i], x[k]) {
					wantAsOtherRead(t, join(x...))
				}
			}
		}
		for _, more := range [][]byte{nil, {0}, {5}, parts[0]} {
			wantNotRead(t, join(append(slices.Clone(parts), more)...))
			wantNotRead(t, join(append(slices.Clone(parts), more, more)...))
		}
		wantNotRead(t, join())
	}
}

// A part's length is less, or more, than it should be, or more than what is left.
func TestP15_3ReadLengths(t *testing.T) {
	for _, f := range files() {
		parts := f.parts()
		for k := range parts {
			ahead, rest := join(parts[:k]...), join(parts[k+1:]...)
			n := len(parts[k])
			for _, size := range append(edges(), n-1, n+1, n+2, n+len(rest), n+len(rest)+1, len(rest), n/2) {
				if size < 0 || size == n {
					continue
				}
				wantNotRead(t, slices.Concat(ahead, bytesOf(size), parts[k], rest))
			}
			// The same length, by a nought more.
			b := bytesOf(n)
			b[len(b)-1] |= 128
			wantNotRead(t, slices.Concat(ahead, b, []byte{0}, parts[k], rest))
			for _, none := range [][]byte{{128}, {128, 0}, {255, 255, 255, 255, 255, 255}, {255, 255, 255, 255, 255, 127}, {129, 128, 128, 128, 128, 32}, bytes.Repeat([]byte{255}, 20)} {
				wantNotRead(t, slices.Concat(ahead, none, parts[k], rest))
				wantNotRead(t, slices.Concat(ahead, none))
			}
			// With a byte more, or less, in it.
			for _, more := range []byte{0, 1, 128, 255} {
				x := slices.Clone(parts)
				x[k] = append(slices.Clone(x[k]), more)
				wantAsOtherRead(t, join(x...))
				wantNotRead(t, join(x...))
				x[k] = slices.Insert(slices.Clone(parts[k]), 0, more)
				wantAsOtherRead(t, join(x...))
			}
			if n > 0 {
				x := slices.Clone(parts)
				x[k] = x[k][:n-1]
				wantNotRead(t, join(x...))
				x[k] = parts[k][1:]
				wantAsOtherRead(t, join(x...))
			}
		}
	}
}

// headed are a file's bytes, with that first part.
func headed(f file, head []byte) []byte {
	parts := f.parts()
	parts[0] = head
	return join(parts...)
}

// The numbers of the first part are too few, too many, none, or others.
func TestP15_3ReadNumbers(t *testing.T) {
	for _, f := range files() {
		for k := range f.head {
			// Without its pools a state may be one still.
			if b := headed(f, bytesOf(f.head[:k]...)); k < 15 || k%3 > 0 {
				wantNotRead(t, b)
			} else {
				wantAsOtherRead(t, b)
			}
			wantAsOtherRead(t, headed(f, bytesOf(f.head[k+1:]...)))
			wantAsOtherRead(t, headed(f, bytesOf(slices.Delete(slices.Clone(f.head), k, k+1)...)))
			for _, n := range []int{0, 1, 4, 300} {
				wantNotRead(t, headed(f, bytesOf(slices.Insert(slices.Clone(f.head), k, n)...)))
			}
			for _, n := range append(edges(), f.head[k]-1, f.head[k]+1, f.head[k]*2, 1<<39, 1<<31, 400, 401) {
				if n >= 0 {
					head := slices.Clone(f.head)
					head[k] = n
					wantAsOtherRead(t, headed(f, bytesOf(head...)))
				}
			}
		}
		for n := 1; n <= 400; n += 1 + n/3 {
			wantAsOtherRead(t, headed(f, bytesOf(append(slices.Clone(f.head), slices.Repeat([]int{1}, n)...)...)))
		}
		for _, none := range []byte{128, 129, 255} {
			wantNotRead(t, headed(f, append(bytesOf(f.head...), none)))
		}
		wantNotRead(t, headed(f, append(bytesOf(f.head...), 128, 0)))
		wantNotRead(t, headed(f, nil))
	}
}

// changed are a file's bytes, changed.
func changed(f file, change func(f *file)) []byte {
	f = file{slices.Clone(f.head), slices.Clone(f.leases), slices.Clone(f.froms), slices.Clone(f.helds), slices.Clone(f.tills)}
	change(&f)
	return f.bytes()
}

// What the parts tell is what no state has, or not what another part tells.
func TestP15_3ReadNone(t *testing.T) {
	none := func(s api.State, change func(f *file)) {
		t.Helper()
		b := changed(fileOf(s), change)
		wantNotRead(t, b)
		if _, is := otherRead(b); is {
			t.Fatalf("the second reading of %v", b)
		}
	}
	for _, s := range []api.State{settled(some()), settled(paired()), settled(late())} {
		none(s, func(f *file) { f.head[11] = 2 })
		none(s, func(f *file) { f.head[11] = 3 })
		none(s, func(f *file) { f.head[11] = 256 })
		// How many leases there are, and how many are held.
		for _, n := range []int{0, 1, 2, 4, 5, 32, 33, 400, 401, 1 << 20, 1 << 32, 1 << 40} {
			none(s, func(f *file) { f.head[13] = n })
		}
		for _, n := range []int{0, 1, 3, 4, 32, 33, 400, 401, 1 << 20, 1 << 32, 1 << 40} {
			none(s, func(f *file) { f.head[14] = n })
		}
		// Steps of less, or of more.
		none(s, func(f *file) { f.froms = f.froms[:2] })
		none(s, func(f *file) { f.froms = nil })
		none(s, func(f *file) { f.froms = append(f.froms, 0) })
		none(s, func(f *file) { f.tills = f.tills[:1] })
		none(s, func(f *file) { f.tills = nil })
		none(s, func(f *file) { f.tills = append(f.tills, s.Now+1) })
		none(s, func(f *file) { f.leases = f.leases[:2] })
		none(s, func(f *file) { f.leases = append(f.leases, 75) })
		none(s, func(f *file) { f.helds = f.helds[:1] })
		none(s, func(f *file) { f.helds = append(f.helds, 11) })
		none(s, func(f *file) { f.head[13], f.leases = 2, f.leases[:2] })
		none(s, func(f *file) { f.head[13], f.froms = 2, f.froms[:2] })
		none(s, func(f *file) { f.leases, f.froms = f.leases[:2], f.froms[:2] })
		none(s, func(f *file) { f.head[14], f.helds = 1, f.helds[:1] })
		none(s, func(f *file) { f.head[14], f.tills = 1, f.tills[:1] })
		none(s, func(f *file) { f.helds, f.tills = f.helds[:1], f.tills[:1] })
		// Ticks that may not be.
		none(s, func(f *file) { f.head[12] = top + 1 })
		none(s, func(f *file) { f.froms[0] = s.Now + 1 })
		none(s, func(f *file) { f.froms[2] = s.Now + 1 })
		none(s, func(f *file) { f.froms[0] = 1<<38 - 1 })
		none(s, func(f *file) { f.froms[0] = 1 << 38 })
		none(s, func(f *file) { f.froms[2] = -1 })
		none(s, func(f *file) { f.froms[0] = -1 })
		none(s, func(f *file) { f.tills[0] = s.Now })
		none(s, func(f *file) { f.tills[1] = 0 })
		none(s, func(f *file) { f.tills[1] = -1 })
		none(s, func(f *file) { f.tills[1] = s.Now + long + 1 })
		none(s, func(f *file) { f.tills[0] = 1<<38 - 1 })
		// Leases that are not in order, or twice there; what is held likewise.
		none(s, func(f *file) { f.leases[0], f.leases[1] = f.leases[1], f.leases[0] })
		none(s, func(f *file) { f.leases[1], f.leases[2] = f.leases[2], f.leases[1] })
		none(s, func(f *file) { f.leases[2] = f.leases[1] })
		none(s, func(f *file) { f.leases[2] = 32*2 + 8 })
		none(s, func(f *file) { slices.Reverse(f.helds) })
		none(s, func(f *file) { f.helds[1] = f.helds[0] })
		none(s, func(f *file) { f.helds[0] = 1 })
		// Whose, and of which block, can't be.
		none(s, func(f *file) { f.leases[0] = 32*4 + 1 })
		none(s, func(f *file) { f.leases[2] = 1023 })
		none(s, func(f *file) { f.leases[0] = 3 })
		none(s, func(f *file) { f.leases[2] = 32*2 + 8*2 })
		none(s, func(f *file) { f.helds[1] = 11 })
		none(s, func(f *file) { f.helds[1] = 16 })
		none(s, func(f *file) { f.helds[1] = 31 })
		// Pools that can't be.
		none(s, func(f *file) { f.head[17] = 2 })
		none(s, func(f *file) { f.head[19] = 3 })
		none(s, func(f *file) { f.head[18] = 0 })
		none(s, func(f *file) { f.head = f.head[:18] })
		none(s, func(f *file) { f.head = append(f.head, 2, 1, 0) })
		none(s, func(f *file) { f.head = append(f.head, 0) })
		none(s, func(f *file) { f.head = append(f.head, 0, 1) })
	}
}

// Behind the last number of a packed part all bits are 0.
func TestP15_3ReadBitsBehind(t *testing.T) {
	for _, f := range files() {
		for part, n := range map[int]int{1: 10 * len(f.leases), 3: 5 * len(f.helds)} {
			for at := n; at%8 > 0; at++ {
				parts := f.parts()
				parts[part][at/8] |= 1 << (at % 8)
				wantNotRead(t, join(parts...))
			}
		}
	}
}

// Of any parts of states that may be, those are read that fit each other.
func TestP15_3ReadMixed(t *testing.T) {
	var l []file
	for k := range 4 {
		l = append(l, fileOf(settled(with(some(), func(s *api.State) {
			s.P.Quota, s.L = 8, s.L[min(k, 3):]
			s.H = []api.Held{{Addr: 0, Blk: 0, Till: 30}, {Addr: 0, Blk: 2, Till: 25}, {Addr: 1, Blk: 2, Till: 90}}[:k]
		}))))
	}
	found := 0
	for i := range 4 * 4 * 4 * 4 * 4 {
		f := file{slices.Clone(l[i%4].head), l[i/4%4].leases, l[i/16%4].froms, l[i/64%4].helds, l[i/256].tills}
		if wantAsOtherRead(t, f.bytes()) {
			found++
		}
		f.head[14] = i / 64 % 4
		if wantAsOtherRead(t, f.bytes()) {
			found++
		}
	}
	if found != 4+16 {
		t.Fatalf("%d are read", found)
	}
}

// Bytes of no sense, and of many numbers, are read as the chapter says.
func TestP15_3ReadAny(t *testing.T) {
	chance := rand.New(rand.NewSource(3))
	for range 20000 {
		b := make([]byte, chance.Intn(60))
		for i := range b {
			b[i] = byte(chance.Intn(1 << (1 + chance.Intn(8))))
		}
		wantAsOtherRead(t, b)
		wantAsOtherRead(t, join(b[:len(b)/4], b[len(b)/4:len(b)/2], b[len(b)/2:], nil, nil))
		wantAsOtherRead(t, join(bytesOf(fileOf(settled(some())).head...), b, b, b, b))
	}
	for _, n := range []int{1000, 1 << 16, 1 << 20} {
		zeros := make([]byte, n)
		wantNotRead(t, zeros)
		wantNotRead(t, join(zeros, zeros, zeros, zeros, zeros))
		wantNotRead(t, join(fileOf(settled(some())).parts()[0], zeros, zeros, zeros, zeros))
		wantNotRead(t, slices.Concat(fileOf(empty()).bytes(), zeros))
	}
}

// What is put is read as it; what is read may be, and is put as the same bytes; a settled state always has bytes.
func TestP15_4PutAndRead(t *testing.T) {
	for _, s := range states() {
		for _, now := range []int{s.Now, s.Now + 1, s.Now + 20, s.Now + 1000, top - 1, top} {
			then, is := state.Settle(s, now)
			if !is {
				continue
			}
			b, put := state.Put(then)
			again, read := state.Read(b)
			if !alloc.May(then) || !put || !read || !isSame(again, then) || !alloc.May(again) {
				t.Fatalf("%v, settled at %d: %v, %t, %v, %t", s, now, b, put, again, read)
			}
			if c, is := state.Put(again); !is || !bytes.Equal(b, c) {
				t.Fatalf("%v: %v, not %v", again, c, b)
			}
		}
	}
}

// What is settled twice is as it is once; at two ticks it is as at the later one.
func TestP15_4SettledTwice(t *testing.T) {
	for _, s := range states() {
		for _, ahead := range []int{0, 1, 2, 5, 20, 100, long, top - s.Now} {
			once, is := state.Settle(s, s.Now+ahead)
			if !is {
				continue
			}
			wantSettled(t, once, once.Now, once, true)
			for _, n := range []int{0, 1, ahead / 2, ahead - 1} {
				if between, is := state.Settle(s, s.Now+n); is && n <= ahead {
					wantSettled(t, between, once.Now, once, true)
				}
			}
		}
	}
}

// asked asks one thing of a state that alloc has, and wants that the events make the same of it, settled, and of one that was made of events alone.
func asked(t *testing.T, s, made api.State, r api.Req) (api.State, api.State) {
	t.Helper()
	then, l, _ := alloc.Do(s, r)
	want, is := state.Settle(then, then.Now)
	if !is {
		t.Fatalf("Do(%v, %v): %v can't be settled", s, r, then)
	}
	got, e := state.All(s, l)
	if got, is = state.Settle(got, then.Now); e != api.OK || !is || !isSame(got, want) {
		t.Fatalf("Do(%v, %v) tells %v, which make %v, %d, not %v", s, r, l, got, e, want)
	}
	made, e = state.All(made, l)
	if got, is = state.Settle(made, then.Now); e != api.OK || !is || !isSame(got, want) {
		t.Fatalf("Do(%v, %v) tells %v, which make %v, %d, not %v", s, r, l, got, e, want)
	}
	return then, made
}

// What alloc's Do tells of a state makes of it, settled, what Do makes of it, settled, for long runs of all kinds.
func TestP15_4DoAndAll(t *testing.T) {
	told := map[int]int{}
	for seed := range 60 {
		chance := rand.New(rand.NewSource(int64(seed)))
		d := mappings()[seed%len(mappings())]
		p := api.Policy{Quota: 1 + chance.Intn(8), Idle: 1 + chance.Intn(15), Hold: chance.Intn(6), Pair: chance.Intn(2) == 0}
		s, _ := alloc.New(d, p)
		s.Now = []int{0, 7, top - 200}[seed%3]
		made := s
		for range 250 {
			r := anyReq(chance, s)
			_, l, _ := alloc.Do(s, r)
			for _, x := range l {
				told[x.Kind]++
			}
			s, made = asked(t, s, made, r)
			if chance.Intn(40) == 0 {
				// Got again from its bytes it goes on likewise.
				b, _ := state.Put(settled(made))
				made, _ = state.Read(b)
			}
		}
	}
	for kind := range api.EvKinds {
		if told[kind] < 8 {
			t.Fatalf("%d events of kind %d", told[kind], kind)
		}
	}
}

// The same for each state, and one thing that is asked of it.
func TestP15_4DoAndAllOnce(t *testing.T) {
	for _, s := range states() {
		var l []api.Req
		for n := range 5 {
			l = append(l, api.Req{Kind: api.RqGrant, Sub: n}, api.Req{Kind: api.RqDrain, N: n}, api.Req{Kind: api.RqGone, N: n})
			for m := range 5 {
				l = append(l, api.Req{Kind: api.RqAdd, Addr: n, N: m}, api.Req{Kind: api.RqSize, Addr: n, N: m})
			}
			l = append(l, api.Req{Kind: api.RqPolicy, P: api.Policy{Quota: 1 + n, Idle: 12 * n, Hold: n, Pair: n%2 == 0}})
		}
		for _, x := range s.L {
			l = append(l, api.Req{Kind: api.RqRefresh, Sub: x.Sub, Addr: x.Addr, Blk: x.Blk}, api.Req{Kind: api.RqRelease, Sub: x.Sub, Addr: x.Addr, Blk: x.Blk})
			end := x.Last + s.P.Idle
			l = append(l, api.Req{Kind: api.RqTick, N: end - 1}, api.Req{Kind: api.RqTick, N: end}, api.Req{Kind: api.RqTick, N: end + s.P.Hold})
		}
		l = append(l, api.Req{Kind: api.RqTick, N: s.Now}, api.Req{Kind: api.RqTick, N: s.Now + 9}, api.Req{Kind: api.RqTick, N: top}, api.Req{Kind: api.RqWho}, api.Req{Kind: -1})
		for _, r := range l {
			asked(t, s, s, r)
		}
	}
}

// roomy is a list with room behind it, and the whole of that memory.
func roomy[T any](l []T, filler T) (list, all []T) {
	all = append(slices.Clone(l), slices.Repeat([]T{filler}, 5)...)
	return all[:len(l)], all
}

// spoil overwrites a list, and the room behind it.
func spoil[T any](l []T, filler T) {
	l = l[:cap(l)]
	for i := range l {
		l[i] = filler
	}
}

// roomyState is a state whose lists have room behind them, and one of the whole of their memory.
func roomyState(s api.State) (state, all api.State) {
	state, all = s, s
	state.Pools, all.Pools = roomy(s.Pools, api.Pool{From: -7})
	state.L, all.L = roomy(s.L, api.Lease{Sub: -7})
	state.H, all.H = roomy(s.H, api.Held{Till: -7})
	return state, all
}

// spoilState overwrites a state's lists.
func spoilState(s api.State) {
	spoil(s.Pools, api.Pool{From: -9})
	spoil(s.L, api.Lease{Sub: -9})
	spoil(s.H, api.Held{Till: -9})
}

// calls are all calls that make a state of a state, with these: what each answers as a state.
func calls(now int, e api.Event, l []api.Event) []func(s api.State) api.State {
	return []func(s api.State) api.State{
		func(s api.State) api.State { then, _ := state.Settle(s, now); return then },
		func(s api.State) api.State { then, _ := state.Apply(s, e); return then },
		func(s api.State) api.State { then, _ := state.All(s, nil); return then },
		func(s api.State) api.State { then, _ := state.All(s, l); return then },
		func(s api.State) api.State {
			then, _ := state.All(s, append(slices.Clone(l), grant(-1, 0, 0, 0)))
			return then
		},
	}
}

// handed are states, may they be or not.
func handed() []api.State {
	l := states()
	for _, x := range bads() {
		l = append(l, x.s)
	}
	return l
}

// eventsOf are events that go well, or not, of a state.
func eventsOf(s api.State) []api.Event {
	l := list(policy(s.Now, 8, long, 9, false), drain(s.Now, 0), add(s.Now+1, 1, 1), gone(s.Now, 0), size(s.Now, 0, 2), grant(s.Now, 1, 0, 2), grant(s.Now-1, 1, 0, 2), grant(-1, 0, 0, 0))
	for _, x := range s.L {
		l = append(l, free(s.Now, x.Sub, x.Addr, x.Blk), free(s.Now+1, x.Sub+1, x.Addr, x.Blk))
	}
	return l
}

// Calls change nothing of what is handed in, nor of what stands behind it; nor do changes to what they answer.
func TestR3HandedInStays(t *testing.T) {
	for _, x := range handed() {
		for _, now := range []int{x.Now, x.Now + 1, x.Now - 1} {
			for i, e := range eventsOf(x) {
				for k, call := range calls(now, e, list(e, e)) {
					s, all := roomyState(x)
					was := own(all)
					state.Put(s)
					got := call(s)
					_ = append(got.Pools, api.Pool{From: -8})
					_ = append(got.L, api.Lease{Sub: -8})
					_ = append(got.H, api.Held{Till: -8})
					spoilState(got)
					if !isSame(all, was) {
						t.Fatalf("%v, call %d, event %d: %v", x, k, i, all)
					}
				}
			}
		}
	}
}

// What is answered is the caller's own: changes to what was handed in, or to another answer, change nothing of it.
func TestR3AnswersAreTheCallersOwn(t *testing.T) {
	for _, x := range handed() {
		for _, now := range []int{x.Now, x.Now + 1, x.Now - 1} {
			for i, e := range eventsOf(x) {
				for k, call := range calls(now, e, list(e, e)) {
					want := own(call(own(x)))
					s, all := roomyState(x)
					got, other := call(s), call(s)
					spoilState(all)
					spoilState(other)
					if !isSame(got, want) {
						t.Fatalf("%v, call %d, event %d: %v, not %v", x, k, i, got, want)
					}
				}
			}
		}
	}
}

// The list that is handed in stays, also what stands behind it.
func TestR3EventsStay(t *testing.T) {
	l, _ := run()
	for k := range len(l) + 1 {
		events, all := roomy(l[:k], api.Event{Kind: -7})
		was := slices.Clone(all)
		state.All(some(), events)
		state.All(full(), events)
		if !slices.Equal(all, was) {
			t.Fatalf("All(%v): %v", was, all)
		}
	}
}

// Bytes that are handed in, or answered, are the caller's.
func TestR3Bytes(t *testing.T) {
	for _, s := range states() {
		s = settled(s)
		want := fileOf(s).bytes()
		b, all := roomy(want, 7)
		was := slices.Clone(all)
		got, is := state.Read(b)
		other, _ := state.Read(b)
		spoilState(other)
		if !is || !bytes.Equal(all, was) {
			t.Fatalf("Read(%v): %v", want, all)
		}
		spoil(all, 9)
		if !isSame(got, s) {
			t.Fatalf("Read(%v): %v", want, got)
		}
		x, _ := roomyState(s)
		c, _ := state.Put(x)
		d, _ := state.Put(x)
		spoil(d, 9)
		spoilState(x)
		if !bytes.Equal(c, want) {
			t.Fatalf("Put(%v): %v", s, c)
		}
	}
}

// Lists that are nil, and those that are empty, are the same.
func TestR6NilAndEmpty(t *testing.T) {
	a := empty()
	b := with(a, func(s *api.State) { s.Pools, s.L, s.H = []api.Pool{}, []api.Lease{}, []api.Held{} })
	put, _ := state.Put(a)
	for _, s := range []api.State{a, b} {
		wantSettled(t, s, 30, with(a, func(s *api.State) { s.Now = 30 }), true)
		wantApplied(t, s, add(20, 0, 1), with(a, func(s *api.State) { s.Pools = []api.Pool{{N: 1}} }))
		wantPut(t, s, put)
	}
}

// No call hangs on the ones ahead.
func TestR5NothingIsKept(t *testing.T) {
	for range 3 {
		for _, x := range written() {
			wantPut(t, x.s, x.b)
			wantNotRead(t, x.b[1:])
			wantNotPut(t, api.State{})
			wantWrong(t, x.s, grant(x.s.Now, 31, 3, 7), api.ErrForm)
			wantSettled(t, x.s, x.s.Now, x.s, true)
		}
	}
}

// The document's example: a state without leases has four empty parts behind its numbers.
func TestExample(t *testing.T) {
	for _, s := range states() {
		s.L, s.H = nil, nil
		b, is := state.Put(s)
		head := bytesOf(fileOf(s).head...)
		if !is || !bytes.Equal(b, slices.Concat(bytesOf(len(head)), head, []byte{0, 0, 0, 0})) {
			t.Fatalf("Put(%v): %v, %t", s, b, is)
		}
	}
}
