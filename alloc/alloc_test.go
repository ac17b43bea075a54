package alloc_test

import (
	"cmp"
	"math"
	"math/big"
	"math/rand"
	"slices"
	"testing"

	"moorings/addr"
	"moorings/alloc"
	"moorings/api"
	"moorings/detmap"
	"moorings/pool"
)

// block is a public address, and a block of it.
type block struct{ at, blk int }

// mapping has subscribers, and public addresses, by prefixes of so many bits, and of each address n blocks of 10 ports.
func mapping(in, out, n int) api.Det {
	return api.Det{In: api.Prefix{Base: 10 << 24, Bits: in}, Out: api.Prefix{Base: 11 << 24, Bits: out}, Lo: 1000, Hi: 1999, Dyn: 10*n + 3, Block: 10}
}

// small has two subscribers, and one address of two blocks.
func small() api.Det { return mapping(31, 32, 2) }

// two has four subscribers, two to each of two addresses of three blocks.
func two() api.Det { return mapping(30, 31, 3) }

// most has 32 subscribers, eight to each of four addresses of eight blocks.
func most() api.Det { return mapping(27, 30, 8) }

// mappings are of all kinds: of one of all, of more addresses than subscribers, of no blocks.
func mappings() []api.Det {
	return []api.Det{small(), two(), most(), mapping(31, 30, 2), mapping(32, 31, 1), mapping(32, 32, 1), mapping(30, 32, 0), mapping(29, 30, 4)}
}

// some is a state of all that there can be, that may be with Pair set, too.
func some() api.State {
	return api.State{
		D:     two(),
		P:     api.Policy{Quota: 2, Idle: 10, Hold: 5},
		Now:   20,
		Pools: []api.Pool{{From: 0, N: 1, St: api.Active}, {From: 1, N: 1, St: api.Drains}},
		L:     []api.Lease{{Sub: 0, Addr: 0, Blk: 1, From: 2, Last: 15}, {Sub: 3, Addr: 1, Blk: 0, From: 20, Last: 20}, {Sub: 2, Addr: 1, Blk: 1, From: 0, Last: 11}},
		H:     []api.Held{{Addr: 0, Blk: 0, Till: 21}, {Addr: 1, Blk: 2, Till: 20 + 1<<20}},
	}
}

// full is a state of 32 leases: each subscriber has one of its own address.
func full() api.State {
	s := api.State{D: most(), P: api.Policy{Quota: 1, Idle: 1 << 20, Hold: 1, Pair: true}, Now: 40, Pools: []api.Pool{{From: 0, N: 4}}}
	for sub := range 32 {
		s.L = append(s.L, api.Lease{Sub: sub, Addr: sub / 8, Blk: sub % 8, From: sub / 2, Last: 40 - sub/3})
	}
	return s
}

// late is a state at the last tick, whose leases would last longer, and whose block is held longer.
func late() api.State {
	s := some()
	s.Now = 1 << 30
	for i := range s.L {
		s.L[i].Last = s.Now - i
	}
	s.H = []api.Held{{Addr: 0, Blk: 0, Till: s.Now + 1}, {Addr: 1, Blk: 2, Till: s.Now + 1<<20}}
	return s
}

// with is a state, changed.
func with(s api.State, change func(s *api.State)) api.State {
	s = own(s)
	change(&s)
	return s
}

// own is a copy of a state.
func own(s api.State) api.State {
	s.Pools, s.L, s.H = slices.Clone(s.Pools), slices.Clone(s.L), slices.Clone(s.H)
	return s
}

// isSame tells whether two states are the same.
func isSame(a, b api.State) bool {
	return a.D == b.D && a.P == b.P && a.Now == b.Now && slices.Equal(a.Pools, b.Pools) && slices.Equal(a.L, b.L) && slices.Equal(a.H, b.H)
}

// edges are numbers around all that the chapter names, and far from it.
func edges() []int {
	return []int{math.MinInt, math.MinInt + 1, -1 << 62, -1 << 32, -1 << 30, -1 << 20, -2, -1, 0, 1, 2, 3, 4, 5, 7, 8, 9, 10, 11, 20, 21, 31, 32, 33, 1<<20 - 1, 1 << 20, 1<<20 + 1, 1<<30 - 1, 1 << 30, 1<<30 + 1, 1 << 32, 1 << 62, math.MaxInt - 1<<20, math.MaxInt - 1, math.MaxInt}
}

// far are the numbers whose sums and differences deceive.
func far() []int {
	return []int{math.MinInt, math.MinInt + 1, -1 << 62, -1, 0, 1, 1 << 62, math.MaxInt - 1, math.MaxInt}
}

// parts are all numbers of a state.
func parts(s *api.State) []*int {
	l := []*int{&s.D.In.Base, &s.D.In.Bits, &s.D.Out.Base, &s.D.Out.Bits, &s.D.Lo, &s.D.Hi, &s.D.Dyn, &s.D.Block, &s.P.Quota, &s.P.Idle, &s.P.Hold, &s.Now}
	for i := range s.Pools {
		l = append(l, &s.Pools[i].From, &s.Pools[i].N, &s.Pools[i].St)
	}
	for i := range s.L {
		l = append(l, &s.L[i].Sub, &s.L[i].Addr, &s.L[i].Blk, &s.L[i].From, &s.L[i].Last)
	}
	for i := range s.H {
		l = append(l, &s.H[i].Addr, &s.H[i].Blk, &s.H[i].Till)
	}
	return l
}

// order is -1, 0 or 1 as a block stands ahead of another one, is the same, or stands behind it.
func order(a, b block) int {
	return cmp.Or(cmp.Compare(a.at, b.at), cmp.Compare(a.blk, b.blk))
}

// isAbove tells whether two numbers, together, are above a third one, however great they are.
func isAbove(a, b, c int) bool {
	sum := new(big.Int).Add(big.NewInt(int64(a)), big.NewInt(int64(b)))
	return sum.Cmp(big.NewInt(int64(c))) > 0
}

// stateOf tells what the pool of an address does; -1 if no pool has it.
func stateOf(l []api.Pool, at int) int {
	for _, p := range l {
		for i := range p.N {
			if p.From+i == at {
				return p.St
			}
		}
	}
	return -1
}

// baseOf is the address of a subscriber's Base; -1 if it is no subscriber.
func baseOf(d api.Det, sub int) int {
	subs, outs := addr.Size(d.In), addr.Size(d.Out)
	if sub < 0 || sub >= subs {
		return -1
	}
	each := subs / outs
	if subs%outs > 0 {
		each++
	}
	return sub / each
}

// otherMayPolicy asks the document's words by another way.
func otherMayPolicy(p api.Policy) bool {
	return slices.Contains([]int{1, 2, 3, 4, 5, 6, 7, 8}, p.Quota) && p.Idle == min(max(p.Idle, 1), 1048576) && p.Hold == min(max(p.Hold, 0), 1048576)
}

// otherMay asks the document's words by another way.
func otherMay(s api.State) bool { return len(whyNot(s)) == 0 }

// whyNot are the conditions that a state breaks, each once.
func whyNot(s api.State) []string {
	var why []string
	must := func(what string, holds bool) {
		if !holds && !slices.Contains(why, what) {
			why = append(why, what)
		}
	}
	must("D fits", detmap.Fit(s.D))
	must("P may be", otherMayPolicy(s.P))
	must("Now is from 0 to 2^30", s.Now >= 0 && s.Now <= 1073741824)
	must("Pools may be", pool.May(s.Pools, addr.Size(s.D.Out)))
	if len(why) > 0 {
		return why
	}
	had := map[block]int{}
	each := map[int]int{}
	must("at most 32", len(s.L) <= 32)
	for k, x := range s.L {
		b := block{x.Addr, x.Blk}
		had[b]++
		each[x.Sub]++
		must("leases stand in order", k == 0 || order(b, block{s.L[k-1].Addr, s.L[k-1].Blk}) > 0)
		must("Sub is one", baseOf(s.D, x.Sub) >= 0)
		must("Addr is a pool's", stateOf(s.Pools, x.Addr) >= 0)
		must("Blk is one", x.Blk >= 0 && x.Blk < s.D.Dyn/s.D.Block)
		must("From is 0 at least", x.From >= 0)
		must("Last is no less than From", x.Last >= x.From)
		must("Now is no less than Last", s.Now >= x.Last)
		must("Last and Idle are above Now", isAbove(x.Last, s.P.Idle, s.Now))
		must("Quota", each[x.Sub] <= s.P.Quota)
		must("Pair", !s.P.Pair || baseOf(s.D, x.Sub) == -1 || x.Addr == baseOf(s.D, x.Sub))
	}
	for k, x := range s.H {
		b := block{x.Addr, x.Blk}
		must("what is held stands in order", k == 0 || order(b, block{s.H[k-1].Addr, s.H[k-1].Blk}) > 0)
		must("what is held is of a block", x.Addr >= 0 && x.Addr < addr.Size(s.D.Out) && x.Blk >= 0 && x.Blk < s.D.Dyn/s.D.Block)
		must("what is held is not had", had[b] == 0)
		must("Till is above Now", x.Till > s.Now)
		must("Till is at most Now and 2^20", !isAbove(x.Till, -1048576, s.Now))
	}
	return why
}

// answer is what Do answers.
type answer struct {
	s      api.State
	events []api.Event
	ans    api.Ans
}

func told(s api.State, events []api.Event, ans api.Ans) answer { return answer{s, events, ans} }

// is tells whether two answers are the same.
func (a answer) is(b answer) bool {
	return isSame(a.s, b.s) && slices.Equal(a.events, b.events) && a.ans == b.ans
}

// otherDo tells what Do is to answer.
func otherDo(s api.State, r api.Req) answer {
	a := answer{s: own(s)}
	switch {
	case !otherMay(s):
		a.ans.E = api.ErrArg
	case r.Kind == api.RqGrant:
		a.grant(r.Sub)
	case r.Kind == api.RqRefresh || r.Kind == api.RqRelease:
		a.use(r)
	case r.Kind == api.RqTick:
		a.tick(r.N)
	case r.Kind >= api.RqAdd && r.Kind <= api.RqGone:
		a.pools(r)
	case r.Kind == api.RqPolicy:
		a.policy(r.P)
	default:
		a.ans.E = api.ErrArg
	}
	return a
}

// grant is told as otherDo tells it.
func (a *answer) grant(sub int) {
	own, n := baseOf(a.s.D, sub), 0
	used := map[block]int{}
	for _, x := range a.s.L {
		used[block{x.Addr, x.Blk}]++
		if x.Sub == sub {
			n++
		}
	}
	for _, x := range a.s.H {
		used[block{x.Addr, x.Blk}]++
	}
	var free []block
	for at := addr.Size(a.s.D.Out) - 1; at >= 0; at-- {
		for blk := a.s.D.Dyn/a.s.D.Block - 1; blk >= 0; blk-- {
			if used[block{at, blk}] == 0 && stateOf(a.s.Pools, at) == api.Active && (!a.s.P.Pair || at == own) {
				free = append(free, block{at, blk})
			}
		}
	}
	switch {
	case own == -1:
		a.ans.E = api.ErrNone
	case n >= a.s.P.Quota:
		a.ans.E = api.ErrQuota
	case a.s.P.Pair && stateOf(a.s.Pools, own) == api.Drains:
		a.ans.E = api.ErrDrain
	case len(free) == 0:
		a.ans.E = api.ErrEmpty
	default:
		b := slices.MinFunc(free, order)
		a.s.L = append(a.s.L, api.Lease{Sub: sub, Addr: b.at, Blk: b.blk, From: a.s.Now, Last: a.s.Now})
		slices.SortFunc(a.s.L, func(x, y api.Lease) int { return order(block{x.Addr, x.Blk}, block{y.Addr, y.Blk}) })
		a.events = []api.Event{{Kind: 0, At: a.s.Now, A: sub, B: b.at, C: b.blk}}
		a.ans = api.Ans{A: b.at, B: b.blk}
	}
}

// use is told as otherDo tells it, of a refresh and of a release.
func (a *answer) use(r api.Req) {
	k := slices.IndexFunc(a.s.L, func(x api.Lease) bool { return x.Sub == r.Sub && x.Addr == r.Addr && x.Blk == r.Blk })
	if k == -1 {
		a.ans.E = api.ErrNone
		return
	}
	if a.s.L[k].Last = a.s.Now; r.Kind == api.RqRelease {
		a.free(a.s.L[k], a.s.Now)
	}
	a.ans = api.Ans{A: r.Addr, B: r.Blk}
}

// free has a lease be freed at a tick.
func (a *answer) free(x api.Lease, tick int) {
	a.s.L = slices.DeleteFunc(a.s.L, func(y api.Lease) bool { return y == x })
	if a.s.P.Hold > 0 {
		a.s.H = append(a.s.H, api.Held{Addr: x.Addr, Blk: x.Blk, Till: tick + a.s.P.Hold})
		slices.SortFunc(a.s.H, func(x, y api.Held) int { return order(block{x.Addr, x.Blk}, block{y.Addr, y.Blk}) })
	}
	a.events = append(a.events, api.Event{Kind: 1, At: tick, A: x.Sub, B: x.Addr, C: x.Blk})
}

// tick is told as otherDo tells it.
func (a *answer) tick(n int) {
	if n < a.s.Now || n > 1073741824 {
		a.ans.E = api.ErrClock
		return
	}
	gone := slices.DeleteFunc(slices.Clone(a.s.L), func(x api.Lease) bool { return x.Last+a.s.P.Idle > n })
	// They stand by Addr and Blk, which those of one tick keep.
	slices.SortStableFunc(gone, func(x, y api.Lease) int { return cmp.Compare(x.Last, y.Last) })
	for _, x := range gone {
		a.free(x, x.Last+a.s.P.Idle)
	}
	a.s.Now = n
	a.s.H = slices.DeleteFunc(a.s.H, func(x api.Held) bool { return x.Till <= n })
	a.ans.A = len(gone)
}

// pools is told as otherDo tells it, of what is asked of pools.
func (a *answer) pools(r api.Req) {
	outs := addr.Size(a.s.D.Out)
	var busy []int
	for _, x := range a.s.L {
		busy = append(busy, x.Addr)
	}
	var l []api.Pool
	x := api.Event{At: a.s.Now, A: r.N}
	switch r.Kind {
	case api.RqAdd:
		l, a.ans.E = pool.Add(a.s.Pools, outs, r.Addr, r.N)
		x.Kind, x.A, x.B = 2, r.Addr, r.N
	case api.RqDrain:
		l, a.ans.E = pool.Drain(a.s.Pools, outs, r.N)
		x.Kind = 3
	case api.RqSize:
		l, a.ans.E = pool.Size(a.s.Pools, outs, r.Addr, r.N, busy)
		x.Kind, x.A, x.B = 4, r.Addr, r.N
	case api.RqGone:
		l, a.ans.E = pool.Gone(a.s.Pools, outs, r.N, busy)
		x.Kind = 5
	}
	if a.ans.E == api.OK {
		a.s.Pools, a.events = l, []api.Event{x}
	}
}

// policy is told as otherDo tells it.
func (a *answer) policy(p api.Policy) {
	then := a.s
	then.P = p
	switch {
	case !otherMayPolicy(p):
		a.ans.E = api.ErrArg
	case !otherMay(then):
		a.ans.E = api.ErrBusy
	default:
		a.s.P = p
		a.events = []api.Event{{Kind: 6, At: a.s.Now, P: p}}
	}
}

func wantMayPolicy(t *testing.T, p api.Policy, want bool) {
	t.Helper()
	if alloc.MayPolicy(p) != want {
		t.Fatalf("MayPolicy(%v): not %t", p, want)
	}
}

func wantMay(t *testing.T, s api.State, want bool) {
	t.Helper()
	was := own(s)
	if alloc.May(s) != want || !isSame(s, was) {
		t.Fatalf("May(%v): not %t; it breaks %v; handed in was %v", s, want, whyNot(s), was)
	}
}

func wantSame(t *testing.T, a, b api.State, want bool) {
	t.Helper()
	if alloc.Same(a, b) != want || alloc.Same(b, a) != want {
		t.Fatalf("Same(%v, %v): not %t", a, b, want)
	}
}

func wantDo(t *testing.T, s api.State, r api.Req, want answer) {
	t.Helper()
	was := own(s)
	got := told(alloc.Do(s, r))
	if !got.is(want) || !isSame(s, was) {
		t.Fatalf("Do(%v, %v): %v, not %v; handed in was %v", s, r, got, want, was)
	}
	if got.ans.E != api.OK && (!isSame(got.s, s) || len(got.events) > 0 || got.ans.A != 0 || got.ans.B != 0) {
		t.Fatalf("Do(%v, %v): %v, with an error", s, r, got)
	}
}

// wantWrong wants an error alone.
func wantWrong(t *testing.T, s api.State, r api.Req, e api.Errno) {
	t.Helper()
	wantDo(t, s, r, answer{s, nil, api.Ans{E: e}})
}

func grant(sub int) api.Req { return api.Req{Kind: api.RqGrant, Sub: sub} }

func refresh(sub, at, blk int) api.Req {
	return api.Req{Kind: api.RqRefresh, Sub: sub, Addr: at, Blk: blk}
}

func release(sub, at, blk int) api.Req {
	return api.Req{Kind: api.RqRelease, Sub: sub, Addr: at, Blk: blk}
}

func tick(n int) api.Req          { return api.Req{Kind: api.RqTick, N: n} }
func add(from, n int) api.Req     { return api.Req{Kind: api.RqAdd, Addr: from, N: n} }
func drain(k int) api.Req         { return api.Req{Kind: api.RqDrain, N: k} }
func size(k, n int) api.Req       { return api.Req{Kind: api.RqSize, Addr: k, N: n} }
func gone(k int) api.Req          { return api.Req{Kind: api.RqGone, N: k} }
func policy(p api.Policy) api.Req { return api.Req{Kind: api.RqPolicy, P: p} }

// freed is the event that a lease was freed.
func freed(at, sub, on, blk int) api.Event {
	return api.Event{Kind: api.EvFree, At: at, A: sub, B: on, C: blk}
}

// play asks one thing after the other, and looks at what is answered.
type play struct {
	t *testing.T
	s api.State
}

// begin is a play, in a state of these.
func begin(t *testing.T, d api.Det, p api.Policy, pools ...api.Pool) *play {
	t.Helper()
	s, is := alloc.New(d, p)
	if !is {
		t.Fatalf("New(%v, %v): false", d, p)
	}
	s.Pools = pools
	return &play{t, s}
}

// ask asks what is to go well.
func (p *play) ask(r api.Req, a, b int, events ...api.Event) {
	p.t.Helper()
	wantDo(p.t, p.s, r, otherDo(p.s, r))
	got := told(alloc.Do(p.s, r))
	if got.ans != (api.Ans{A: a, B: b}) || !slices.Equal(got.events, events) {
		p.t.Fatalf("Do(%v, %v): %v and %v, not %d and %d and %v", p.s, r, got.ans, got.events, a, b, events)
	}
	wantMay(p.t, got.s, true)
	p.s = got.s
}

// granted asks for a block, and wants that one.
func (p *play) granted(sub, at, blk int) {
	p.t.Helper()
	p.ask(grant(sub), at, blk, api.Event{Kind: api.EvGrant, At: p.s.Now, A: sub, B: at, C: blk})
}

// released gives a block back.
func (p *play) released(sub, at, blk int) {
	p.t.Helper()
	p.ask(release(sub, at, blk), at, blk, freed(p.s.Now, sub, at, blk))
}

// wrong asks what is to be an error.
func (p *play) wrong(r api.Req, e api.Errno) {
	p.t.Helper()
	wantWrong(p.t, p.s, r, e)
	wantDo(p.t, p.s, r, otherDo(p.s, r))
}

// leases wants these leases, and no others.
func (p *play) leases(l ...api.Lease) {
	p.t.Helper()
	if !slices.Equal(p.s.L, l) {
		p.t.Fatalf("leases %v, not %v", p.s.L, l)
	}
}

// held wants that these are held, and no others.
func (p *play) held(h ...api.Held) {
	p.t.Helper()
	if !slices.Equal(p.s.H, h) {
		p.t.Fatalf("held are %v, not %v", p.s.H, h)
	}
}

// states are many states that may be: those above, and those that are met by asking at random.
func states() []api.State {
	all := []api.State{{D: small(), P: api.Policy{Quota: 1, Idle: 1}}, some(), full(), late()}
	all = append(all, with(some(), func(s *api.State) { s.P.Pair = true }))
	all = append(all, with(full(), func(s *api.State) { s.L, s.P.Quota = slices.Delete(s.L, 9, 12), 8 }))
	for seed, d := range mappings() {
		for _, pair := range []bool{false, true} {
			chance := rand.New(rand.NewSource(int64(seed)))
			s := api.State{D: d, P: api.Policy{Quota: 1 + seed%3, Idle: 4 + seed, Hold: seed % 4, Pair: pair}, Pools: []api.Pool{{From: 0, N: addr.Size(d.Out)}}}
			for i := range 60 {
				s = otherDo(s, anyReq(chance, s)).s
				if i%6 == 5 {
					all = append(all, s)
				}
			}
		}
	}
	return all
}

// anyReq is a request at random, that often can be done.
func anyReq(chance *rand.Rand, s api.State) api.Req {
	subs, outs := addr.Size(s.D.In), addr.Size(s.D.Out)
	r := api.Req{Kind: chance.Intn(9), Sub: chance.Intn(subs+1) - chance.Intn(2), Addr: chance.Intn(outs+1) - chance.Intn(2), Blk: chance.Intn(9), N: chance.Intn(4)}
	switch chance.Intn(4) {
	case 0, 1:
		r.Kind = api.RqGrant
	case 2:
		r.Kind = api.RqTick
	}
	if len(s.L) > 0 && chance.Intn(8) > 0 && (r.Kind == api.RqRefresh || r.Kind == api.RqRelease) {
		x := s.L[chance.Intn(len(s.L))]
		r.Sub, r.Addr, r.Blk = x.Sub, x.Addr, x.Blk
	}
	if r.Kind == api.RqTick {
		r.N = s.Now + chance.Intn(5) - chance.Intn(20)/19
	}
	if r.Kind == api.RqPolicy {
		r.P = api.Policy{Quota: chance.Intn(10), Idle: chance.Intn(12), Hold: chance.Intn(6) - chance.Intn(2), Pair: chance.Intn(3) == 0}
	}
	return r
}

// asks are requests of all kinds that can tell anything of a state.
func asks(s api.State) []api.Req {
	subs := addr.Size(s.D.In)
	var l []api.Req
	for sub := -1; sub <= subs; sub++ {
		l = append(l, grant(sub))
	}
	for _, x := range s.L {
		for _, sub := range []int{-1, x.Sub, (x.Sub + 1) % subs, subs} {
			l = append(l, refresh(sub, x.Addr, x.Blk), release(sub, x.Addr, x.Blk))
		}
		for _, b := range []block{{x.Addr, x.Blk + 1}, {x.Addr, x.Blk - 1}, {x.Addr + 1, x.Blk}, {x.Blk, x.Addr}} {
			l = append(l, refresh(x.Sub, b.at, b.blk), release(x.Sub, b.at, b.blk))
		}
		end := x.Last + s.P.Idle
		l = append(l, tick(end-1), tick(end), tick(end+1), tick(end+s.P.Hold-1), tick(end+s.P.Hold), tick(end+s.P.Hold+1))
	}
	for _, x := range s.H {
		l = append(l, refresh(0, x.Addr, x.Blk), release(0, x.Addr, x.Blk), tick(x.Till-1), tick(x.Till), tick(x.Till+1))
	}
	for n := -1; n <= 5; n++ {
		l = append(l, drain(n), gone(n), refresh(n, 0, 0), release(0, n, 0), tick(s.Now+n), api.Req{Kind: 8 + n})
		for m := -1; m <= 5; m++ {
			l = append(l, add(n, m), size(n, m))
		}
	}
	for _, n := range edges() {
		l = append(l, grant(n), refresh(n, 0, 0), release(0, n, 0), release(0, 0, n), tick(n), add(n, 1), add(0, n), drain(n), size(n, 1), size(0, n), gone(n), api.Req{Kind: n})
	}
	for _, p := range policies(s) {
		l = append(l, policy(p))
	}
	return l
}

// policies are those that a state may have, or may not, and its own, changed in one part each.
func policies(s api.State) []api.Policy {
	l := []api.Policy{{}, s.P, {Quota: 1, Idle: 1}, {Quota: 8, Idle: 1 << 20, Hold: 1 << 20, Pair: true}}
	for _, n := range edges() {
		l = append(l, s.P, s.P, s.P)
		k := len(l)
		l[k-1].Quota, l[k-2].Idle, l[k-3].Hold = n, n, n
	}
	for _, x := range s.L {
		for _, idle := range []int{s.Now - x.Last, s.Now - x.Last + 1} {
			p := s.P
			p.Idle = idle
			l = append(l, p)
		}
	}
	p := s.P
	p.Pair = !p.Pair
	return append(l, p)
}

func TestP13_1MayPolicy(t *testing.T) {
	for _, pair := range []bool{false, true} {
		for _, x := range []struct {
			n                 int
			quota, idle, hold bool
		}{
			{-1, false, false, false},
			{0, false, false, true},
			{1, true, true, true},
			{8, true, true, true},
			{9, false, true, true},
			{1 << 20, false, true, true},
			{1<<20 + 1, false, false, false},
		} {
			wantMayPolicy(t, api.Policy{Quota: x.n, Idle: 5, Hold: 5, Pair: pair}, x.quota)
			wantMayPolicy(t, api.Policy{Quota: 5, Idle: x.n, Hold: 5, Pair: pair}, x.idle)
			wantMayPolicy(t, api.Policy{Quota: 5, Idle: 5, Hold: x.n, Pair: pair}, x.hold)
		}
		for _, quota := range edges() {
			for _, idle := range edges() {
				for _, hold := range edges() {
					p := api.Policy{Quota: quota, Idle: idle, Hold: hold, Pair: pair}
					wantMayPolicy(t, p, otherMayPolicy(p))
				}
			}
		}
	}
	wantMayPolicy(t, api.Policy{}, false)
	wantMayPolicy(t, api.Policy{Quota: 8, Idle: 1 << 20, Hold: 1 << 20, Pair: true}, true)
}

// named is a state, and a name for it.
type named struct {
	why string
	s   api.State
}

// bads are states that may not be, each for the one condition that it is named by.
func bads() []named {
	var l []named
	add := func(why string, s api.State, change func(s *api.State)) {
		l = append(l, named{why, with(s, change)})
	}
	empty := api.State{D: two(), P: api.Policy{Quota: 2, Idle: 10, Hold: 5}, Now: 20}
	add("D fits", empty, func(s *api.State) { s.D.Lo = 0 })
	add("D fits", empty, func(s *api.State) { s.D.Dyn = 90 })
	add("D fits", empty, func(s *api.State) { s.D.Out = s.D.In })
	add("P may be", some(), func(s *api.State) { s.P.Quota = 0 })
	add("P may be", some(), func(s *api.State) { s.P.Quota = 9 })
	add("P may be", some(), func(s *api.State) { s.P.Idle = 1<<20 + 1 })
	add("P may be", empty, func(s *api.State) { s.P.Idle = 0 })
	add("P may be", some(), func(s *api.State) { s.P.Hold = -1 })
	add("P may be", some(), func(s *api.State) { s.P.Hold = 1<<20 + 1 })
	add("Now is from 0 to 2^30", empty, func(s *api.State) { s.Now = -1 })
	add("Now is from 0 to 2^30", empty, func(s *api.State) { s.Now = 1<<30 + 1 })
	add("Pools may be", empty, func(s *api.State) { s.Pools = []api.Pool{{From: 0, N: 3}} })
	add("Pools may be", empty, func(s *api.State) { s.Pools = []api.Pool{{From: 2, N: 1}} })
	add("Pools may be", empty, func(s *api.State) { s.Pools = []api.Pool{{From: 0, N: 0}} })
	add("Pools may be", some(), func(s *api.State) { s.Pools[1].From = 0 })
	add("Pools may be", some(), func(s *api.State) { s.Pools[1].St = 2 })
	add("leases stand in order", some(), func(s *api.State) { s.L[0], s.L[1] = s.L[1], s.L[0] })
	add("leases stand in order", some(), func(s *api.State) { s.L[1], s.L[2] = s.L[2], s.L[1] })
	add("leases stand in order", some(), func(s *api.State) { s.L[2].Blk = 0 })
	add("leases stand in order", full(), func(s *api.State) { s.L[30], s.L[31] = s.L[31], s.L[30] })
	add("leases stand in order", full(), func(s *api.State) { s.P.Pair, s.L[31].Addr, s.L[31].Blk = false, 3, 6 })
	add("Sub is one", some(), func(s *api.State) { s.L[0].Sub = 4 })
	add("Sub is one", some(), func(s *api.State) { s.L[2].Sub = -1 })
	add("Addr is a pool's", some(), func(s *api.State) { s.Pools = s.Pools[1:] })
	add("Addr is a pool's", some(), func(s *api.State) { s.Pools = s.Pools[:1] })
	add("Addr is a pool's", some(), func(s *api.State) { s.L[2].Addr = 2 })
	add("Addr is a pool's", some(), func(s *api.State) { s.L[0].Addr = -1 })
	add("Blk is one", some(), func(s *api.State) { s.L[0].Blk = 3 })
	add("Blk is one", some(), func(s *api.State) { s.L[1].Blk = -1 })
	add("From is 0 at least", some(), func(s *api.State) { s.L[0].From = -1 })
	add("From is 0 at least", some(), func(s *api.State) { s.L[2].From = -1 })
	add("Last is no less than From", some(), func(s *api.State) { s.L[0].From = 16 })
	add("Last is no less than From", some(), func(s *api.State) { s.L[1].Last = 19 })
	add("Now is no less than Last", some(), func(s *api.State) { s.L[1].Last = 21 })
	add("Now is no less than Last", some(), func(s *api.State) { s.Now, s.L[0].Last, s.L[2].Last, s.H = 19, 10, 10, nil })
	add("Last and Idle are above Now", some(), func(s *api.State) { s.L[2].Last = 10 })
	add("Last and Idle are above Now", some(), func(s *api.State) { s.P.Idle = 9 })
	add("Last and Idle are above Now", some(), func(s *api.State) { s.Now, s.H = 21, nil })
	add("Quota", some(), func(s *api.State) { s.P.Quota, s.L[2].Sub = 1, 3 })
	add("Quota", some(), func(s *api.State) { s.L[0].Sub, s.L[1].Sub = 2, 2 })
	add("Pair", some(), func(s *api.State) { s.P.Pair, s.L[0].Sub = true, 2 })
	add("Pair", some(), func(s *api.State) { s.P.Pair, s.L[2].Sub = true, 1 })
	add("Pair", full(), func(s *api.State) { s.L[7].Sub, s.L[8].Sub = 8, 7 })
	add("what is held stands in order", some(), func(s *api.State) { s.H[0], s.H[1] = s.H[1], s.H[0] })
	add("what is held stands in order", some(), func(s *api.State) { s.H[1] = s.H[0] })
	add("what is held stands in order", some(), func(s *api.State) { s.H[0].Blk, s.H[1].Addr, s.H[1].Blk = 2, 0, 0 })
	add("what is held is of a block", some(), func(s *api.State) { s.H[1].Blk = 3 })
	add("what is held is of a block", some(), func(s *api.State) { s.H[0].Blk = -1 })
	add("what is held is of a block", some(), func(s *api.State) { s.H[1].Addr = 2 })
	add("what is held is of a block", some(), func(s *api.State) { s.H[0].Addr = -1 })
	add("what is held is not had", some(), func(s *api.State) { s.H[0].Blk = 1 })
	add("what is held is not had", some(), func(s *api.State) { s.H[1].Blk = 1 })
	add("Till is above Now", some(), func(s *api.State) { s.H[0].Till = 20 })
	add("Till is above Now", some(), func(s *api.State) { s.H[1].Till = 0 })
	add("Till is at most Now and 2^20", some(), func(s *api.State) { s.H[1].Till++ })
	add("Till is at most Now and 2^20", some(), func(s *api.State) { s.H[0].Till = 20 + 1<<20 + 1 })
	return l
}

// near are states that may be, each at an edge.
func near() []api.State {
	var l []api.State
	add := func(s api.State, change func(s *api.State)) { l = append(l, with(s, change)) }
	empty := api.State{D: two(), P: api.Policy{Quota: 2, Idle: 10, Hold: 5}}
	add(empty, func(s *api.State) {})
	add(empty, func(s *api.State) { s.Pools, s.L, s.H = []api.Pool{}, []api.Lease{}, []api.Held{} })
	add(empty, func(s *api.State) { s.Now = 1 << 30 })
	add(some(), func(s *api.State) {})
	add(some(), func(s *api.State) { s.P.Pair = true })
	add(some(), func(s *api.State) { s.P.Hold = 0 })
	add(some(), func(s *api.State) { s.P.Hold = 1 << 20 })
	add(some(), func(s *api.State) { s.P.Idle = 1 << 20 })
	add(some(), func(s *api.State) { s.P.Quota = 1 })
	add(some(), func(s *api.State) { s.P.Quota = 8 })
	add(some(), func(s *api.State) { s.L[2].Sub = 3 })
	add(some(), func(s *api.State) { s.L[0].Sub = 2 })
	add(some(), func(s *api.State) { s.L[0].From = 15 })
	add(some(), func(s *api.State) { s.L[0].From = 0 })
	add(some(), func(s *api.State) { s.L[2].Last = 11 })
	add(some(), func(s *api.State) { s.Pools = []api.Pool{{From: 0, N: 2, St: api.Drains}} })
	add(some(), func(s *api.State) { s.Pools[0], s.Pools[1] = s.Pools[1], s.Pools[0] })
	add(some(), func(s *api.State) { s.H[0].Blk = 2 })
	add(some(), func(s *api.State) { s.H[0].Till = 20 + 1<<20 })
	add(some(), func(s *api.State) { s.H[1].Till = 21 })
	// What is held may be of an address of no pool; of all blocks of all of them.
	add(some(), func(s *api.State) { s.Pools, s.L = nil, nil })
	add(some(), func(s *api.State) { s.Pools, s.L = s.Pools[:1], s.L[:1] })
	add(full(), func(s *api.State) {})
	add(full(), func(s *api.State) {
		s.L = nil
		for i := range 32 {
			s.H = append(s.H, api.Held{Addr: i / 8, Blk: i % 8, Till: 41})
		}
	})
	add(full(), func(s *api.State) {
		s.P.Quota, s.P.Pair = 8, false
		for i := range s.L {
			s.L[i].Sub = 31 - i%4
		}
	})
	add(late(), func(s *api.State) {})
	// So many pools as there can be, and an address of none.
	add(empty, func(s *api.State) {
		s.D, s.Pools = mapping(30, 30, 2), []api.Pool{{From: 3, N: 1}, {From: 0, N: 1, St: api.Drains}, {From: 1, N: 1}}
	})
	return l
}

func TestP13_1MayNear(t *testing.T) {
	for _, s := range near() {
		if why := whyNot(s); len(why) > 0 {
			t.Fatalf("%v breaks %v", s, why)
		}
		wantMay(t, s, true)
	}
}

// Each condition is one that a state may break, and that alone.
func TestP13_1MayBreaks(t *testing.T) {
	var broken []string
	for _, x := range bads() {
		if why := whyNot(x.s); !slices.Equal(why, []string{x.why}) {
			t.Fatalf("%v breaks %v, not %s alone", x.s, why, x.why)
		}
		wantMay(t, x.s, false)
		broken = append(broken, x.why)
	}
	slices.Sort(broken)
	// At most 32 is no condition that breaks alone: there are 32 blocks at most.
	if n := len(slices.Compact(broken)); n != 19 {
		t.Fatalf("%d conditions are broken", n)
	}
}

// 32 leases are so many as there can be blocks; 33 stand in no order, or one is of no block.
func TestP13_1MayLong(t *testing.T) {
	s := full()
	s.P.Pair, s.P.Quota = false, 8
	wantMay(t, s, true)
	for _, x := range []api.Lease{{Sub: 0, Addr: 3, Blk: 8}, {Sub: 0, Addr: 4, Blk: 0}, {Sub: 0, Addr: 3, Blk: 7}, {Sub: 0, Addr: 0, Blk: 0}} {
		x.From, x.Last = 40, 40
		wantMay(t, with(s, func(s *api.State) { s.L = append(s.L, x) }), false)
		wantMay(t, with(s, func(s *api.State) { s.L = slices.Insert(s.L, 0, x) }), false)
		wantMay(t, with(s, func(s *api.State) { s.H = append(s.H, api.Held{Addr: x.Addr, Blk: x.Blk, Till: 41}) }), false)
	}
	for _, n := range []int{33, 64, 65, 10000} {
		wantMay(t, with(s, func(s *api.State) { s.L = slices.Repeat(s.L, n)[:n] }), false)
		wantMay(t, with(s, func(s *api.State) { s.L, s.H = nil, slices.Repeat([]api.Held{{Till: 41}}, n) }), false)
	}
}

// The zero state, and others that are not whole.
func TestP13_1MayZero(t *testing.T) {
	wantMay(t, api.State{}, false)
	wantMay(t, api.State{D: two()}, false)
	wantMay(t, api.State{P: some().P}, false)
	wantMay(t, api.State{D: two(), P: some().P}, true)
}

// One part of a state is any number.
func TestP13_1MayAnyPart(t *testing.T) {
	for _, s := range []api.State{some(), with(some(), func(s *api.State) { s.P.Pair = true }), late()} {
		for i := range parts(&s) {
			for _, n := range edges() {
				x := own(s)
				*parts(&x)[i] = n
				wantMay(t, x, otherMay(x))
				for near := -2; near <= 2; near++ {
					x := own(s)
					*parts(&x)[i] += near
					wantMay(t, x, otherMay(x))
				}
			}
		}
	}
}

// Two parts of a state are numbers whose sum, or difference, deceives.
func TestP13_1MayFar(t *testing.T) {
	s := some()
	for i := range parts(&s) {
		for j := range i {
			for _, n := range far() {
				for _, m := range far() {
					x := own(s)
					l := parts(&x)
					*l[i], *l[j] = n, m
					wantMay(t, x, otherMay(x))
				}
			}
		}
	}
}

// Two leases, and what is held, stand anywhere.
func TestP13_1MayAnyBlocks(t *testing.T) {
	for i := range 5 * 6 * 5 * 6 {
		at, blk, other, its := i/180-1, i/30%6-1, i/6%5-1, i%6-1
		for _, pools := range [][]api.Pool{nil, {{From: 0, N: 2}}, {{From: 1, N: 1}, {From: 0, N: 1}}, {{From: 1, N: 1, St: api.Drains}}} {
			s := api.State{D: two(), P: some().P, Now: 20, Pools: pools}
			s.L = []api.Lease{{Sub: 0, Addr: at, Blk: blk, From: 20, Last: 20}, {Sub: 2, Addr: other, Blk: its, From: 20, Last: 20}}
			wantMay(t, s, otherMay(s))
			s.P.Pair = true
			wantMay(t, s, otherMay(s))
			s.H = []api.Held{{Addr: other, Blk: its, Till: 21}}
			wantMay(t, s, otherMay(s))
			s.L = s.L[:1]
			wantMay(t, s, otherMay(s))
			s.L, s.H = nil, []api.Held{{Addr: at, Blk: blk, Till: 21}, {Addr: other, Blk: its, Till: 22}}
			wantMay(t, s, otherMay(s))
		}
	}
}

func TestP13_1MayMet(t *testing.T) {
	for _, s := range states() {
		wantMay(t, s, true)
		if !otherMay(s) {
			t.Fatalf("%v breaks %v", s, whyNot(s))
		}
	}
}

func TestP13_1Same(t *testing.T) {
	for _, s := range append(states(), api.State{}, bads()[0].s) {
		wantSame(t, s, own(s), true)
		for i := range parts(&s) {
			x := own(s)
			*parts(&x)[i]++
			wantSame(t, s, x, false)
		}
		wantSame(t, s, with(s, func(s *api.State) { s.P.Pair = !s.P.Pair }), false)
		wantSame(t, s, with(s, func(s *api.State) { s.Pools = append(s.Pools, api.Pool{}) }), false)
		wantSame(t, s, with(s, func(s *api.State) { s.L = append(s.L, api.Lease{}) }), false)
		wantSame(t, s, with(s, func(s *api.State) { s.H = append(s.H, api.Held{}) }), false)
		wantSame(t, s, with(s, func(s *api.State) { slices.Reverse(s.Pools) }), len(s.Pools) < 2)
		wantSame(t, s, with(s, func(s *api.State) { slices.Reverse(s.L) }), len(s.L) < 2)
		wantSame(t, s, with(s, func(s *api.State) { slices.Reverse(s.H) }), len(s.H) < 2)
	}
	wantSame(t, api.State{}, api.State{Pools: []api.Pool{}, L: []api.Lease{}, H: []api.Held{}}, true)
}

// States that differ in one part are not the same, whatever numbers the part has.
func TestP13_1SameAnyPart(t *testing.T) {
	s := some()
	for i := range parts(&s) {
		for _, n := range edges() {
			for _, m := range edges() {
				a, b := own(s), own(s)
				*parts(&a)[i], *parts(&b)[i] = n, m
				wantSame(t, a, b, n == m)
			}
		}
	}
}

func TestP13_1New(t *testing.T) {
	want := func(d api.Det, p api.Policy, may bool) {
		t.Helper()
		s, is := alloc.New(d, p)
		if is != may || may && !isSame(s, api.State{D: d, P: p}) || !may && !isSame(s, api.State{}) {
			t.Fatalf("New(%v, %v): %v, %t, not %t", d, p, s, is, may)
		}
	}
	for _, d := range append(mappings(), api.Det{}, mapping(26, 30, 2), mapping(27, 29, 2), mapping(30, 31, 9), mapping(30, 31, 100)) {
		for _, pair := range []bool{false, true} {
			for _, n := range edges() {
				for _, p := range []api.Policy{{Quota: n, Idle: 4, Hold: 4, Pair: pair}, {Quota: 4, Idle: n, Hold: 4, Pair: pair}, {Quota: 4, Idle: 4, Hold: n, Pair: pair}} {
					want(d, p, detmap.Fit(d) && otherMayPolicy(p))
				}
			}
		}
	}
	want(two(), api.Policy{Quota: 8, Idle: 1 << 20, Hold: 1 << 20, Pair: true}, true)
	want(two(), api.Policy{Quota: 1, Idle: 1}, true)
	want(two(), api.Policy{}, false)
	want(api.Det{}, api.Policy{Quota: 1, Idle: 1}, false)
	want(mapping(30, 31, 100), api.Policy{Quota: 1, Idle: 1}, false)
}

// Of a state that may not be nothing is done, whatever is asked.
func TestP13_2StateMayNotBe(t *testing.T) {
	for _, x := range append(bads(), named{"zero", api.State{}}) {
		for kind := -1; kind <= 11; kind++ {
			r := api.Req{Kind: kind, N: x.s.Now, P: api.Policy{Quota: 1, Idle: 1}}
			wantWrong(t, x.s, r, api.ErrArg)
		}
		// Nor is another error told that would fit.
		for _, r := range []api.Req{grant(-1), refresh(9, 9, 9), release(9, 9, 9), tick(-1), tick(1<<30 + 1), drain(-1), size(7, 1), gone(7), policy(api.Policy{})} {
			wantWrong(t, x.s, r, api.ErrArg)
		}
	}
	long := with(full(), func(s *api.State) { s.L = append(s.L, s.L[31]) })
	wantWrong(t, long, tick(50), api.ErrArg)
	wantWrong(t, long, release(31, 3, 7), api.ErrArg)
}

func TestP13_2Kinds(t *testing.T) {
	for _, s := range states() {
		for _, kind := range append(edges(), -1, 9, 10, 11) {
			if kind < 0 || kind > 8 {
				wantWrong(t, s, api.Req{Kind: kind}, api.ErrArg)
				wantWrong(t, s, api.Req{Kind: kind, Sub: -1, Addr: 1, Blk: 1, N: 1 << 29, P: api.Policy{Quota: 8, Idle: 1 << 20}}, api.ErrArg)
			}
		}
	}
}

func TestP13_2Grant(t *testing.T) {
	p := begin(t, two(), api.Policy{Quota: 2, Idle: 9})
	p.wrong(grant(0), api.ErrEmpty)
	p.s.Pools = []api.Pool{{From: 1, N: 1}}
	p.s.Now = 7
	p.granted(3, 1, 0)
	p.leases(api.Lease{Sub: 3, Addr: 1, Blk: 0, From: 7, Last: 7})
	// The least address that is free, which need not be one's own, nor of the first pool.
	p.s.Pools = []api.Pool{{From: 1, N: 1}, {From: 0, N: 1}}
	p.granted(3, 0, 0)
	p.wrong(grant(3), api.ErrQuota)
	p.granted(2, 0, 1)
	p.granted(2, 0, 2)
	p.granted(1, 1, 1)
	p.leases(
		api.Lease{Sub: 3, Addr: 0, Blk: 0, From: 7, Last: 7},
		api.Lease{Sub: 2, Addr: 0, Blk: 1, From: 7, Last: 7},
		api.Lease{Sub: 2, Addr: 0, Blk: 2, From: 7, Last: 7},
		api.Lease{Sub: 3, Addr: 1, Blk: 0, From: 7, Last: 7},
		api.Lease{Sub: 1, Addr: 1, Blk: 1, From: 7, Last: 7})
	// The only block that is left, and none.
	p.granted(1, 1, 2)
	p.wrong(grant(0), api.ErrEmpty)
	p.released(2, 0, 1)
	p.granted(0, 0, 1)
	p.wrong(grant(0), api.ErrEmpty)
	p.held()
}

// Subscribers are told by their places: there is none below 0, and none at how many there are.
func TestP13_2GrantNone(t *testing.T) {
	for _, d := range mappings() {
		for _, pair := range []bool{false, true} {
			p := begin(t, d, api.Policy{Quota: 1, Idle: 9, Pair: pair}, api.Pool{From: 0, N: addr.Size(d.Out)})
			subs := addr.Size(d.In)
			for _, sub := range []int{-1, subs, subs + 1, math.MinInt, math.MaxInt} {
				p.wrong(grant(sub), api.ErrNone)
			}
			for sub := range subs {
				wantDo(t, p.s, grant(sub), otherDo(p.s, grant(sub)))
			}
		}
	}
	begin(t, mapping(30, 32, 0), api.Policy{Quota: 1, Idle: 9}, api.Pool{From: 0, N: 1}).wrong(grant(0), api.ErrEmpty)
	begin(t, mapping(30, 32, 0), api.Policy{Quota: 1, Idle: 9, Pair: true}, api.Pool{From: 0, N: 1}).wrong(grant(0), api.ErrEmpty)
}

// With Pair set it is one's own address, and no other.
func TestP13_2GrantPair(t *testing.T) {
	p := begin(t, two(), api.Policy{Quota: 2, Idle: 9, Pair: true})
	p.wrong(grant(0), api.ErrEmpty)
	p.s.Pools = []api.Pool{{From: 0, N: 1, St: api.Drains}, {From: 1, N: 1}}
	p.wrong(grant(0), api.ErrDrain)
	p.wrong(grant(1), api.ErrDrain)
	p.granted(2, 1, 0)
	p.granted(3, 1, 1)
	p.granted(2, 1, 2)
	p.wrong(grant(3), api.ErrEmpty)
	p.wrong(grant(2), api.ErrQuota)
	p.s.Pools[0].St = api.Active
	p.wrong(grant(3), api.ErrEmpty)
	p.granted(1, 0, 0)
	p.s.Pools[1].St = api.Drains
	// It drains, and has none left.
	p.wrong(grant(3), api.ErrDrain)
	p.released(3, 1, 1)
	p.wrong(grant(3), api.ErrDrain)
	p.s.Pools[1].St = api.Active
	p.granted(3, 1, 1)
	// Where there are more addresses than subscribers, some are nobody's own.
	q := begin(t, mapping(31, 30, 2), api.Policy{Quota: 3, Idle: 9, Pair: true}, api.Pool{From: 1, N: 3})
	q.wrong(grant(0), api.ErrEmpty)
	q.granted(1, 1, 0)
	q.granted(1, 1, 1)
	q.wrong(grant(1), api.ErrEmpty)
	q.s.P.Pair = false
	q.granted(0, 2, 0)
}

// Pools that drain are gone past, and so are blocks that are held.
func TestP13_2GrantPast(t *testing.T) {
	p := begin(t, mapping(30, 30, 2), api.Policy{Quota: 8, Idle: 9}, api.Pool{From: 0, N: 1, St: api.Drains}, api.Pool{From: 1, N: 2}, api.Pool{From: 3, N: 1, St: api.Drains})
	p.s.H = []api.Held{{Addr: 1, Blk: 0, Till: 3}, {Addr: 2, Blk: 1, Till: 4}}
	p.granted(0, 1, 1)
	p.granted(0, 2, 0)
	p.wrong(grant(0), api.ErrEmpty)
	p.ask(tick(2), 0, 0)
	p.wrong(grant(0), api.ErrEmpty)
	p.ask(tick(3), 0, 0)
	p.granted(0, 1, 0)
	p.wrong(grant(0), api.ErrEmpty)
	p.ask(tick(4), 0, 0)
	p.granted(1, 2, 1)
	p.wrong(grant(0), api.ErrEmpty)
	p.held()
	// The same with Pair set.
	q := begin(t, small(), api.Policy{Quota: 8, Idle: 9, Pair: true}, api.Pool{From: 0, N: 1})
	q.s.H = []api.Held{{Addr: 0, Blk: 0, Till: 3}}
	q.granted(1, 0, 1)
	q.wrong(grant(1), api.ErrEmpty)
	q.ask(tick(3), 0, 0)
	q.granted(1, 0, 0)
}

// Of the errors of a grant the first one is told.
func TestP13_2GrantFirst(t *testing.T) {
	// No subscriber, no pool at all.
	p := begin(t, two(), api.Policy{Quota: 1, Idle: 9, Pair: true})
	p.wrong(grant(4), api.ErrNone)
	// Its quota is had, and its pool drains; and nothing is free.
	p.s.Pools = []api.Pool{{From: 0, N: 1}}
	p.granted(0, 0, 0)
	p.ask(drain(0), 0, 0, api.Event{Kind: api.EvDrain})
	p.wrong(grant(0), api.ErrQuota)
	p.wrong(grant(4), api.ErrNone)
	p.s.H = []api.Held{{Addr: 0, Blk: 1, Till: 5}, {Addr: 0, Blk: 2, Till: 5}}
	p.wrong(grant(0), api.ErrQuota)
	p.wrong(grant(1), api.ErrDrain)
	p.wrong(grant(2), api.ErrEmpty)
	p.s.P.Pair = false
	p.wrong(grant(0), api.ErrQuota)
	p.wrong(grant(1), api.ErrEmpty)
}

// All 32 blocks are granted, each once, and no more.
func TestP13_2GrantAll(t *testing.T) {
	for _, pair := range []bool{false, true} {
		p := begin(t, most(), api.Policy{Quota: 8, Idle: 9, Pair: pair}, api.Pool{From: 2, N: 2}, api.Pool{From: 0, N: 2})
		for i := range 32 {
			sub := i / 8 * 8
			if !pair {
				sub = 31 - i%4
			}
			p.granted(sub, i/8, i%8)
		}
		for sub := range 32 {
			r := grant(sub)
			wantDo(t, p.s, r, otherDo(p.s, r))
			if _, _, ans := alloc.Do(p.s, r); ans.E == api.OK {
				t.Fatalf("a 33rd lease for %d", sub)
			}
		}
	}
}

func TestP13_2Refresh(t *testing.T) {
	s := some()
	for k, x := range s.L {
		for _, y := range s.L {
			for sub := -1; sub <= 4; sub++ {
				r := refresh(sub, y.Addr, y.Blk)
				if sub != y.Sub {
					wantWrong(t, s, r, api.ErrNone)
				}
			}
		}
		want := with(s, func(s *api.State) { s.L[k].Last = 20 })
		wantDo(t, s, refresh(x.Sub, x.Addr, x.Blk), answer{want, nil, api.Ans{A: x.Addr, B: x.Blk}})
		// Once more it is as it was.
		wantDo(t, want, refresh(x.Sub, x.Addr, x.Blk), answer{want, nil, api.Ans{A: x.Addr, B: x.Blk}})
	}
	// Blocks that nobody has, or that are none.
	for at := -1; at <= 2; at++ {
		for blk := -1; blk <= 3; blk++ {
			if !slices.ContainsFunc(s.L, func(x api.Lease) bool { return x.Addr == at && x.Blk == blk }) {
				for sub := range 4 {
					wantWrong(t, s, refresh(sub, at, blk), api.ErrNone)
					wantWrong(t, s, release(sub, at, blk), api.ErrNone)
				}
			}
		}
	}
	// What is used lasts longer.
	p := &play{t, s}
	p.ask(refresh(2, 1, 1), 1, 1)
	p.ask(tick(29), 1, 0, freed(25, 0, 0, 1))
	p.ask(tick(30), 2, 0, freed(30, 3, 1, 0), freed(30, 2, 1, 1))
}

func TestP13_2Release(t *testing.T) {
	s := some()
	for k, x := range s.L {
		for sub := -1; sub <= 4; sub++ {
			if sub != x.Sub {
				wantWrong(t, s, release(sub, x.Addr, x.Blk), api.ErrNone)
			}
		}
		told := []api.Event{freed(20, x.Sub, x.Addr, x.Blk)}
		h := []api.Held{s.H[0], {Addr: x.Addr, Blk: x.Blk, Till: 25}, s.H[1]}
		want := with(s, func(s *api.State) { s.L, s.H = slices.Delete(s.L, k, k+1), h })
		wantDo(t, s, release(x.Sub, x.Addr, x.Blk), answer{want, told, api.Ans{A: x.Addr, B: x.Blk}})
		// Without a Hold it is not held, nor are others held any less.
		s.P.Hold, want.P.Hold, want.H = 0, 0, s.H
		wantDo(t, s, release(x.Sub, x.Addr, x.Blk), answer{want, told, api.Ans{A: x.Addr, B: x.Blk}})
		wantWrong(t, want, release(x.Sub, x.Addr, x.Blk), api.ErrNone)
		s.P.Hold = 5
	}
	for _, hold := range []int{0, 1, 2, 1<<20 - 1, 1 << 20} {
		for _, now := range []int{0, 1, 1<<30 - 1, 1 << 30} {
			p := begin(t, small(), api.Policy{Quota: 2, Idle: 1, Hold: hold}, api.Pool{From: 0, N: 1})
			p.s.Now = now
			p.granted(1, 0, 0)
			p.released(1, 0, 0)
			if hold == 0 {
				p.held()
				p.granted(1, 0, 0)
				continue
			}
			p.held(api.Held{Till: now + hold})
			p.granted(1, 0, 1)
			p.released(1, 0, 1)
			p.wrong(grant(1), api.ErrEmpty)
		}
	}
}

func TestP13_2TickEdges(t *testing.T) {
	for _, s := range []api.State{some(), full(), late(), {D: two(), P: some().P}, {D: two(), P: some().P, Now: 1 << 30}} {
		for _, n := range edges() {
			if n < s.Now || n > 1<<30 {
				wantWrong(t, s, tick(n), api.ErrClock)
			} else {
				wantDo(t, s, tick(n), otherDo(s, tick(n)))
			}
		}
		wantWrong(t, s, tick(s.Now-1), api.ErrClock)
		wantWrong(t, s, tick(1<<30+1), api.ErrClock)
		wantDo(t, s, tick(s.Now), answer{s, nil, api.Ans{}})
		wantDo(t, s, tick(1<<30), otherDo(s, tick(1<<30)))
	}
}

// A lease goes at the tick of its Last and Idle, not ahead of it, and what is told is that tick, however far one goes.
func TestP13_2TickIdle(t *testing.T) {
	for _, idle := range []int{1, 2, 3, 15, 16, 17, 1000, 1 << 20} {
		for _, hold := range []int{0, 1, 2, 20, 1 << 20} {
			for _, now := range []int{0, 5, 1<<30 - 1<<20 - 1, 1<<30 - 1<<20} {
				begun := begin(t, small(), api.Policy{Quota: 1, Idle: idle, Hold: hold}, api.Pool{From: 0, N: 1})
				begun.s.Now = now
				begun.granted(1, 0, 0)
				end := now + idle
				for _, n := range []int{end - 1, end, end + 1, end + hold - 1, end + hold, end + hold + 1, 1 << 30} {
					p := &play{t, begun.s}
					if n > 1<<30 {
						p.wrong(tick(n), api.ErrClock)
						continue
					}
					if n < end {
						p.ask(tick(n), 0, 0)
						p.leases(api.Lease{Sub: 1, From: now, Last: now})
						p.held()
						continue
					}
					p.ask(tick(n), 1, 0, freed(end, 1, 0, 0))
					p.leases()
					if n < end+hold {
						p.held(api.Held{Till: end + hold})
						p.granted(0, 0, 1)
					} else {
						p.held()
						p.granted(0, 0, 0)
					}
				}
			}
		}
	}
}

// Those that go, go by rising ticks, of the same tick by Addr, and by Blk.
func TestP13_2TickOrder(t *testing.T) {
	p := begin(t, two(), api.Policy{Quota: 8, Idle: 10, Hold: 3}, api.Pool{From: 0, N: 2})
	p.s.Now = 9
	p.s.L = []api.Lease{{Sub: 3, Addr: 0, Blk: 0, Last: 6}, {Sub: 1, Addr: 0, Blk: 1, Last: 4}, {Sub: 2, Addr: 0, Blk: 2, Last: 8}, {Sub: 0, Addr: 1, Blk: 0, Last: 4}, {Sub: 2, Addr: 1, Blk: 1, Last: 6}, {Sub: 0, Addr: 1, Blk: 2, Last: 4}}
	was := p.s
	p.ask(tick(18), 6, 0, freed(14, 1, 0, 1), freed(14, 0, 1, 0), freed(14, 0, 1, 2), freed(16, 3, 0, 0), freed(16, 2, 1, 1), freed(18, 2, 0, 2))
	p.held(api.Held{Addr: 0, Blk: 0, Till: 19}, api.Held{Addr: 0, Blk: 2, Till: 21}, api.Held{Addr: 1, Blk: 1, Till: 19})
	p.leases()
	p.s = was
	p.ask(tick(17), 5, 0, freed(14, 1, 0, 1), freed(14, 0, 1, 0), freed(14, 0, 1, 2), freed(16, 3, 0, 0), freed(16, 2, 1, 1))
	// Those of 14 are held till 17: no longer.
	p.held(api.Held{Addr: 0, Blk: 0, Till: 19}, api.Held{Addr: 1, Blk: 1, Till: 19})
	p.leases(api.Lease{Sub: 2, Addr: 0, Blk: 2, Last: 8})
	p.ask(tick(17), 0, 0)
	p.s = was
	p.ask(tick(13), 0, 0)
	p.ask(tick(14), 3, 0, freed(14, 1, 0, 1), freed(14, 0, 1, 0), freed(14, 0, 1, 2))
	p.held(api.Held{Addr: 0, Blk: 1, Till: 17}, api.Held{Addr: 1, Blk: 0, Till: 17}, api.Held{Addr: 1, Blk: 2, Till: 17})
	p.ask(tick(16), 2, 0, freed(16, 3, 0, 0), freed(16, 2, 1, 1))
	// Freed, and no more held, at one tick.
	p.ask(tick(18), 1, 0, freed(18, 2, 0, 2))
	p.held(api.Held{Addr: 0, Blk: 0, Till: 19}, api.Held{Addr: 0, Blk: 2, Till: 21}, api.Held{Addr: 1, Blk: 1, Till: 19})
}

// 32 leases go at 32 ticks, or all at one.
func TestP13_2TickAll(t *testing.T) {
	s := full()
	wantDo(t, s, tick(1<<30), otherDo(s, tick(1<<30)))
	for i := range s.L {
		s.L[i].From, s.L[i].Last = 0, 40-i
	}
	for n := 40 + 1<<20; n >= 1<<20; n-- {
		wantDo(t, s, tick(n), otherDo(s, tick(n)))
	}
	if got := told(alloc.Do(s, tick(40+1<<20))); got.ans.A != 32 || got.events[0] != freed(9+1<<20, 31, 3, 7) || len(got.s.H) != 1 {
		t.Fatal(got)
	}
	for i := range s.L {
		s.L[i].Last = 40
	}
	if got := told(alloc.Do(s, tick(40+1<<20))); got.ans.A != 32 || got.events[31] != freed(40+1<<20, 31, 3, 7) || len(got.s.H) != 32 {
		t.Fatal(got)
	}
}

// A lease that would last longer than there are ticks goes at none, and can be released.
func TestP13_2TickLast(t *testing.T) {
	p := begin(t, two(), api.Policy{Quota: 2, Idle: 10, Hold: 1 << 20}, api.Pool{From: 0, N: 2})
	p.ask(tick(1<<30-11), 0, 0)
	p.granted(0, 0, 0)
	p.ask(tick(1<<30-10), 0, 0)
	p.granted(1, 0, 1)
	p.ask(tick(1<<30-9), 0, 0)
	p.granted(1, 0, 2)
	p.ask(tick(1<<30), 2, 0, freed(1<<30-1, 0, 0, 0), freed(1<<30, 1, 0, 1))
	p.leases(api.Lease{Sub: 1, Addr: 0, Blk: 2, From: 1<<30 - 9, Last: 1<<30 - 9})
	p.ask(tick(1<<30), 0, 0)
	p.wrong(tick(1<<30+1), api.ErrClock)
	p.ask(refresh(1, 0, 2), 0, 2)
	p.granted(0, 1, 0)
	p.released(1, 0, 2)
	p.held(api.Held{Addr: 0, Blk: 0, Till: 1<<30 - 1 + 1<<20}, api.Held{Addr: 0, Blk: 1, Till: 1<<30 + 1<<20}, api.Held{Addr: 0, Blk: 2, Till: 1<<30 + 1<<20})
}

func TestP13_2Pools(t *testing.T) {
	p := begin(t, mapping(30, 30, 2), api.Policy{Quota: 2, Idle: 9, Hold: 4})
	p.s.Now = 3
	p.wrong(add(-1, 1), api.ErrArg)
	p.wrong(add(0, 0), api.ErrArg)
	p.wrong(add(4, 1), api.ErrArg)
	p.wrong(add(1, 4), api.ErrArg)
	p.wrong(drain(0), api.ErrNone)
	p.wrong(size(0, 1), api.ErrNone)
	p.wrong(gone(0), api.ErrNone)
	p.ask(add(1, 2), 0, 0, api.Event{Kind: api.EvAdd, At: 3, A: 1, B: 2})
	p.wrong(add(2, 1), api.ErrThere)
	p.ask(add(0, 1), 0, 0, api.Event{Kind: api.EvAdd, At: 3, A: 0, B: 1})
	p.ask(add(3, 1), 0, 0, api.Event{Kind: api.EvAdd, At: 3, A: 3, B: 1})
	p.wrong(add(3, 1), api.ErrThere)
	if !slices.Equal(p.s.Pools, []api.Pool{{From: 1, N: 2}, {From: 0, N: 1}, {From: 3, N: 1}}) {
		t.Fatal(p.s.Pools)
	}
	p.ask(drain(2), 0, 0, api.Event{Kind: api.EvDrain, At: 3, A: 2})
	p.wrong(drain(2), api.ErrThere)
	p.wrong(drain(3), api.ErrNone)
	p.wrong(size(0, 0), api.ErrArg)
	p.wrong(size(0, 4), api.ErrArg)
	p.wrong(size(0, 3), api.ErrThere)
	p.wrong(size(3, 1), api.ErrNone)
	p.wrong(gone(0), api.ErrBusy)
	p.wrong(gone(3), api.ErrNone)
	p.ask(gone(2), 0, 0, api.Event{Kind: api.EvGone, At: 3, A: 2})
	p.ask(size(0, 3), 0, 0, api.Event{Kind: api.EvSize, At: 3, A: 0, B: 3})
	p.ask(size(0, 1), 0, 0, api.Event{Kind: api.EvSize, At: 3, A: 0, B: 1})
	p.ask(add(2, 1), 0, 0, api.Event{Kind: api.EvAdd, At: 3, A: 2, B: 1})
	// Three pools are all that there can be.
	p.wrong(add(3, 1), api.ErrFull)
	if !slices.Equal(p.s.Pools, []api.Pool{{From: 1, N: 1}, {From: 0, N: 1}, {From: 2, N: 1}}) {
		t.Fatal(p.s.Pools)
	}
}

// Addresses of which some block is had are busy; those whose blocks are held are not.
func TestP13_2PoolsBusy(t *testing.T) {
	p := begin(t, mapping(30, 30, 2), api.Policy{Quota: 8, Idle: 9, Hold: 4}, api.Pool{From: 0, N: 3})
	for i := range 5 {
		p.granted(0, i/2, i%2)
	}
	p.released(0, 1, 0)
	p.wrong(size(0, 1), api.ErrBusy)
	p.wrong(size(0, 2), api.ErrBusy)
	p.released(0, 2, 0)
	p.ask(size(0, 2), 0, 0, api.Event{Kind: api.EvSize, A: 0, B: 2})
	p.wrong(size(0, 1), api.ErrBusy)
	p.released(0, 1, 1)
	p.ask(size(0, 1), 0, 0, api.Event{Kind: api.EvSize, A: 0, B: 1})
	p.wrong(gone(0), api.ErrBusy)
	p.ask(drain(0), 0, 0, api.Event{Kind: api.EvDrain})
	p.wrong(gone(0), api.ErrBusy)
	p.released(0, 0, 1)
	p.wrong(gone(0), api.ErrBusy)
	p.released(0, 0, 0)
	p.ask(gone(0), 0, 0, api.Event{Kind: api.EvGone})
	if len(p.s.H) != 5 || len(p.s.Pools) != 0 {
		t.Fatal(p.s)
	}
	// Blocks of no pool's address are held still: one who comes again doesn't get them.
	p.ask(add(0, 1), 0, 0, api.Event{Kind: api.EvAdd, B: 1})
	p.wrong(grant(0), api.ErrEmpty)
	p.ask(tick(4), 0, 0)
	p.granted(0, 0, 0)
}

func TestP13_2Policy(t *testing.T) {
	p := &play{t, some()}
	to := func(x api.Policy, e api.Errno) {
		t.Helper()
		if e != api.OK {
			p.wrong(policy(x), e)
			return
		}
		p.ask(policy(x), 0, 0, api.Event{Kind: api.EvPolicy, At: 20, P: x})
		if p.s.P != x {
			t.Fatal(p.s.P)
		}
	}
	// Those that may not be, also where the state would not be one that may, for other reasons.
	to(api.Policy{}, api.ErrArg)
	to(api.Policy{Quota: 0, Idle: 10, Hold: 5}, api.ErrArg)
	to(api.Policy{Quota: 9, Idle: 10, Hold: 5}, api.ErrArg)
	to(api.Policy{Quota: 2, Idle: 0, Hold: 5}, api.ErrArg)
	to(api.Policy{Quota: 2, Idle: 1<<20 + 1, Hold: 5}, api.ErrArg)
	to(api.Policy{Quota: 2, Idle: 10, Hold: -1}, api.ErrArg)
	to(api.Policy{Quota: 2, Idle: 10, Hold: 1<<20 + 1}, api.ErrArg)
	to(api.Policy{Quota: 1, Idle: 1, Hold: -1}, api.ErrArg)
	// One lease was last used 9 ticks ago.
	to(api.Policy{Quota: 2, Idle: 9, Hold: 5}, api.ErrBusy)
	to(api.Policy{Quota: 2, Idle: 1, Hold: 5}, api.ErrBusy)
	to(api.Policy{Quota: 2, Idle: 10, Hold: 5}, api.OK)
	to(api.Policy{Quota: 8, Idle: 1 << 20, Hold: 1 << 20, Pair: true}, api.OK)
	to(api.Policy{Quota: 1, Idle: 10, Hold: 0, Pair: true}, api.OK)
	to(api.Policy{Quota: 2, Idle: 11}, api.OK)
	// One has two, and one of another's address.
	p.granted(3, 0, 2)
	to(api.Policy{Quota: 1, Idle: 11}, api.ErrBusy)
	to(api.Policy{Quota: 2, Idle: 11, Pair: true}, api.ErrBusy)
	to(api.Policy{Quota: 1, Idle: 1, Pair: true}, api.ErrBusy)
	to(api.Policy{Quota: 2, Idle: 11}, api.OK)
	// What is held stays, whatever Hold becomes.
	p.held(some().H...)
}

// What is held is held till when it was freed to be, whatever the policy becomes then.
func TestP13_2PolicyHold(t *testing.T) {
	p := begin(t, small(), api.Policy{Quota: 2, Idle: 9, Hold: 6}, api.Pool{From: 0, N: 1})
	p.granted(0, 0, 0)
	p.released(0, 0, 0)
	x := api.Policy{Quota: 2, Idle: 9, Hold: 2}
	p.ask(policy(x), 0, 0, api.Event{Kind: api.EvPolicy, P: x})
	p.granted(0, 0, 1)
	p.released(0, 0, 1)
	p.held(api.Held{Blk: 0, Till: 6}, api.Held{Blk: 1, Till: 2})
	p.ask(tick(2), 0, 0)
	p.granted(0, 0, 1)
	p.wrong(grant(0), api.ErrEmpty)
	p.ask(tick(6), 0, 0)
	p.granted(0, 0, 0)
}

// With an error, or without, each kind is answered by the document's words, in all states.
func TestP13_2All(t *testing.T) {
	errors := map[[2]int]int{}
	for _, s := range append(states(), near()...) {
		for _, r := range asks(s) {
			want := otherDo(s, r)
			errors[[2]int{r.Kind, int(want.ans.E)}]++
			wantDo(t, s, r, want)
			if !alloc.May(told(alloc.Do(s, r)).s) {
				t.Fatalf("Do(%v, %v): a state that may not be", s, r)
			}
		}
	}
	// Each error of each kind was met.
	for kind, l := range [][]api.Errno{
		{api.OK, api.ErrNone, api.ErrQuota, api.ErrEmpty, api.ErrDrain},
		{api.OK, api.ErrNone},
		{api.OK, api.ErrNone},
		{api.OK, api.ErrClock},
		{api.OK, api.ErrArg, api.ErrThere, api.ErrFull},
		{api.OK, api.ErrNone, api.ErrThere},
		{api.OK, api.ErrNone, api.ErrArg, api.ErrThere, api.ErrBusy},
		{api.OK, api.ErrNone, api.ErrBusy},
		{api.OK, api.ErrArg, api.ErrBusy},
		{api.ErrArg},
	} {
		for _, e := range l {
			if errors[[2]int{kind, int(e)}] == 0 {
				t.Fatalf("no %d of kind %d", e, kind)
			}
		}
	}
}

// The parts of a request that its kind does not name change nothing.
func TestP13_2OtherParts(t *testing.T) {
	for _, s := range []api.State{some(), full(), states()[30]} {
		for i, r := range asks(s) {
			n := far()[i%len(far())]
			x := api.Req{Kind: r.Kind, Sub: n, Addr: n, Blk: n, N: n, P: api.Policy{Quota: n, Idle: n, Hold: n, Pair: i%2 == 0}}
			switch r.Kind {
			case api.RqGrant:
				x.Sub = r.Sub
			case api.RqRefresh, api.RqRelease:
				x.Sub, x.Addr, x.Blk = r.Sub, r.Addr, r.Blk
			case api.RqTick, api.RqDrain, api.RqGone:
				x.N = r.N
			case api.RqAdd, api.RqSize:
				x.Addr, x.N = r.Addr, r.N
			case api.RqPolicy:
				x.P = r.P
			}
			wantDo(t, s, x, otherDo(s, r))
		}
	}
}

// watch looks at long runs: at what was freed, and till when it may be granted to nobody.
type watch struct {
	t    *testing.T
	till map[block]int
}

// look looks at one answer.
func (w *watch) look(was api.State, r api.Req, got answer) {
	w.t.Helper()
	for _, x := range got.events {
		b := block{x.B, x.C}
		switch x.Kind {
		case api.EvFree:
			w.till[b] = x.At + was.P.Hold
		case api.EvGrant:
			if x.At < w.till[b] || stateOf(was.Pools, x.B) != api.Active || was.P.Pair && x.B != baseOf(was.D, x.A) {
				w.t.Fatalf("%v, of %v, asked %v", x, was, r)
			}
		}
	}
	apart(w.t, got.s)
	if got.ans.E != api.OK && !isSame(was, got.s) {
		w.t.Fatalf("%v, asked %v: %v", was, r, got)
	}
}

// apart wants that no two leases have a block, or a port, or one that is a subscriber's own, and nobody has more than Quota.
func apart(t *testing.T, s api.State) {
	t.Helper()
	ports := map[[2]int]int{}
	each := map[int]int{}
	take := func(x api.Span) {
		for n := x.From; n <= x.To; n++ {
			ports[[2]int{x.Addr, n}]++
			if ports[[2]int{x.Addr, n}] > 1 || n < s.D.Lo || n > s.D.Hi {
				t.Fatalf("port %d of %d, of %v", n, x.Addr, s)
			}
		}
	}
	for _, x := range s.L {
		span, is := detmap.Block(s.D, x.Addr, x.Blk)
		own, _ := detmap.Base(s.D, x.Sub)
		if each[x.Sub]++; !is || each[x.Sub] > s.P.Quota || s.P.Pair && own.Addr != x.Addr {
			t.Fatalf("%v, of %v", x, s)
		}
		take(span)
		if each[x.Sub] == 1 {
			take(own)
		}
	}
}

// What may be stays so, behind long runs of requests of all kinds.
func TestP13_3StaysSo(t *testing.T) {
	for seed := range 40 {
		chance := rand.New(rand.NewSource(int64(seed)))
		d := mappings()[seed%len(mappings())]
		p := api.Policy{Quota: 1 + chance.Intn(8), Idle: 1 + chance.Intn(15), Hold: chance.Intn(6), Pair: chance.Intn(2) == 0}
		s, _ := alloc.New(d, p)
		w := watch{t, map[block]int{}}
		for range 250 {
			r := anyReq(chance, s)
			wantDo(t, s, r, otherDo(s, r))
			got := told(alloc.Do(s, r))
			w.look(s, r, got)
			wantMay(t, got.s, true)
			s = got.s
		}
	}
}

// By one step, or by two, the same leases are freed, in the same order, and the state is the same.
func TestP13_3TwoSteps(t *testing.T) {
	for _, s := range append(states(), near()...) {
		for _, ahead := range []int{0, 1, 2, 3, 5, 9, 10, 11, 20, 1 << 20, 1<<20 + 40} {
			if s.Now+ahead > 1<<30 {
				continue
			}
			one := told(alloc.Do(s, tick(s.Now+ahead)))
			for _, n := range []int{0, 1, 2, ahead / 3, ahead / 2, ahead - 2, ahead - 1, ahead} {
				if n < 0 || n > ahead {
					continue
				}
				half := told(alloc.Do(s, tick(s.Now+n)))
				whole := told(alloc.Do(half.s, tick(s.Now+ahead)))
				whole.events = slices.Concat(half.events, whole.events)
				whole.ans.A += half.ans.A
				if !whole.is(one) {
					t.Fatalf("%v, to %d, and %d: %v, not %v", s, n, ahead, whole, one)
				}
			}
		}
	}
}

// A block that was freed is granted to nobody till Hold ticks are over, and then it is.
func TestP13_3HeldBack(t *testing.T) {
	for _, hold := range []int{1, 2, 5, 40} {
		for _, idles := range []bool{false, true} {
			p := begin(t, mapping(31, 32, 1), api.Policy{Quota: 1, Idle: 3, Hold: hold}, api.Pool{From: 0, N: 1})
			p.granted(0, 0, 0)
			if idles {
				p.ask(tick(3), 1, 0, freed(3, 0, 0, 0))
			} else {
				p.ask(tick(2), 0, 0)
				p.released(0, 0, 0)
			}
			for from := p.s.Now; p.s.Now < from+hold; p.ask(tick(p.s.Now+1), 0, 0) {
				p.wrong(grant(0), api.ErrEmpty)
				p.wrong(grant(1), api.ErrEmpty)
			}
			p.granted(1, 0, 0)
		}
	}
}

// A pool that drains gets no new lease; when all have idled it can go.
func TestP13_3DrainsEmpty(t *testing.T) {
	for _, s := range append(states(), near()...) {
		for k := range s.Pools {
			drained := told(alloc.Do(s, drain(k)))
			if s.Pools[k].St == api.Drains && drained.ans.E != api.ErrThere || drained.s.Pools[k].St != api.Drains {
				t.Fatalf("%v, drained %d: %v", s, k, drained)
			}
			at := drained.s
			for sub := range addr.Size(s.D.In) {
				at, _, _ = alloc.Do(at, grant(sub))
			}
			end, mine := s.Now, false
			for _, x := range at.L {
				if p := s.Pools[k]; x.Addr >= p.From && x.Addr < p.From+p.N {
					end, mine = max(end, x.Last+s.P.Idle), true
					if !slices.Contains(s.L, x) {
						t.Fatalf("%v, drained %d: a new lease %v", s, k, x)
					}
				}
			}
			if mine {
				wantWrong(t, at, gone(k), api.ErrBusy)
			}
			if end <= 1<<30 {
				idle := told(alloc.Do(at, tick(end)))
				want := with(idle.s, func(s *api.State) { s.Pools = slices.Delete(s.Pools, k, k+1) })
				wantDo(t, idle.s, gone(k), answer{want, []api.Event{{Kind: api.EvGone, At: end, A: k}}, api.Ans{}})
			}
		}
	}
}

// roomy is a list with room behind it, and the whole of that memory.
func roomy[T any](l []T, filler T) (list, all []T) {
	all = append(slices.Clone(l), slices.Repeat([]T{filler}, 5)...)
	return all[:len(l)], all
}

// spoil overwrites a list, and the room behind it.
func spoil[T any](l []T, filler T) {
	l = l[:cap(l)]
	for i := range l {
		l[i] = filler
	}
}

// roomyState is a state whose lists have room behind them, and one of the whole of their memory.
func roomyState(s api.State) (state, all api.State) {
	state, all = s, s
	state.Pools, all.Pools = roomy(s.Pools, api.Pool{From: -7})
	state.L, all.L = roomy(s.L, api.Lease{Sub: -7})
	state.H, all.H = roomy(s.H, api.Held{Till: -7})
	return state, all
}

// spoilState overwrites a state's lists.
func spoilState(s api.State) {
	spoil(s.Pools, api.Pool{From: -9})
	spoil(s.L, api.Lease{Sub: -9})
	spoil(s.H, api.Held{Till: -9})
}

// fewAsks are some of the requests of a state, of all kinds.
func fewAsks(s api.State) []api.Req {
	var l []api.Req
	last := api.Req{Kind: -1}
	for i, r := range asks(s) {
		if i%3 == 0 || r.Kind != last.Kind {
			l = append(l, r)
		}
		last = r
	}
	return l
}

// Calls change nothing of what is handed in, nor of what stands behind it; nor do changes to what they answer.
func TestR3HandedInStays(t *testing.T) {
	l := append(states(), near()...)
	for _, x := range bads() {
		l = append(l, x.s)
	}
	for _, x := range l {
		for _, r := range fewAsks(some()) {
			s, all := roomyState(x)
			was := own(all)
			alloc.May(s)
			alloc.Same(s, s)
			got := told(alloc.Do(s, r))
			_ = append(got.s.Pools, api.Pool{From: -8})
			_ = append(got.s.L, api.Lease{Sub: -8})
			_ = append(got.s.H, api.Held{Till: -8})
			spoilState(got.s)
			spoil(got.events, api.Event{Kind: -9})
			if !isSame(all, was) {
				t.Fatalf("%v, asked %v: %v", x, r, all)
			}
		}
	}
}

// What is answered is the caller's own: changes to what was handed in, or to another answer, change nothing of it.
func TestR3AnswersAreTheCallersOwn(t *testing.T) {
	l := append(states(), near()...)
	for _, x := range bads() {
		l = append(l, x.s)
	}
	for _, x := range l {
		for _, r := range fewAsks(some()) {
			want := otherDo(x, r)
			s, all := roomyState(x)
			got, other := told(alloc.Do(s, r)), told(alloc.Do(s, r))
			spoilState(all)
			spoilState(other.s)
			spoil(other.events, api.Event{Kind: -9})
			if !got.is(want) {
				t.Fatalf("%v, asked %v: %v, not %v", x, r, got, want)
			}
		}
	}
}

// No call hangs on the ones ahead.
func TestR5NothingIsKept(t *testing.T) {
	s := some()
	for range 3 {
		for _, r := range asks(s) {
			wantDo(t, s, r, otherDo(s, r))
		}
		wantWrong(t, api.State{}, grant(0), api.ErrArg)
		wantMay(t, s, true)
	}
}

// Whatever numbers calls are made with, they end, and answer by the document's words.
func TestP1AnyNumbers(t *testing.T) {
	s := some()
	for kind := -1; kind <= 11; kind++ {
		for _, n := range edges() {
			for _, m := range edges() {
				for _, r := range []api.Req{
					{Kind: kind, Sub: n, Addr: m, Blk: n, N: m, P: api.Policy{Quota: n, Idle: m, Hold: n}},
					{Kind: kind, Sub: 0, Addr: n, Blk: 1, N: m, P: api.Policy{Quota: 2, Idle: n, Hold: m}},
					{Kind: kind, Sub: 3, Addr: 1, Blk: n, N: m, P: api.Policy{Quota: n, Idle: 20, Hold: m, Pair: true}},
				} {
					wantDo(t, s, r, otherDo(s, r))
				}
			}
		}
	}
	for i := range parts(&s) {
		for _, n := range edges() {
			x := own(s)
			*parts(&x)[i] = n
			for _, r := range []api.Req{grant(0), grant(n), refresh(0, 0, 1), release(3, 1, 0), release(n, n, n), tick(21), tick(1 << 30), tick(n), add(0, 1), drain(0), size(0, n), gone(1), policy(s.P), policy(api.Policy{Quota: 1, Idle: n})} {
				wantDo(t, x, r, otherDo(x, r))
			}
		}
	}
}

// The document's example: one address, 2 blocks, Quota 1, a pool.
func TestExample(t *testing.T) {
	p := begin(t, small(), api.Policy{Quota: 1, Idle: 100, Hold: 5})
	p.ask(add(0, 1), 0, 0, api.Event{Kind: api.EvAdd, B: 1})
	p.granted(0, 0, 0)
	p.wrong(grant(0), api.ErrQuota)
	p.released(0, 0, 0)
	p.granted(1, 0, 1)
}
