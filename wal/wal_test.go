package wal_test

import (
	"bytes"
	"hash/crc32"
	"math"
	"math/bits"
	"math/rand"
	"slices"
	"testing"

	"moorings/addr"
	"moorings/alloc"
	"moorings/api"
	"moorings/disk"
	"moorings/event"
	"moorings/rec"
	"moorings/state"
	"moorings/wal"
)

const (
	// top is the greatest tick, and the greatest number of a file.
	top = 1 << 30
	// long is the longest wait.
	long = 1 << 20
)

// mapping has subscribers, and public addresses, by prefixes of so many bits, and of each address n blocks of 10 ports.
func mapping(in, out, n int) api.Det {
	return api.Det{In: api.Prefix{Base: 10 << 24, Bits: in}, Out: api.Prefix{Base: 11 << 24, Bits: out}, Lo: 1000, Hi: 1999, Dyn: 10*n + 3, Block: 10}
}

// plain is a state of nothing, at a tick.
func plain(now int) api.State {
	return api.State{D: mapping(30, 31, 3), P: api.Policy{Quota: 2, Idle: 10, Hold: 5}, Now: now}
}

// some is a settled state of all that there can be.
func some() api.State {
	s := plain(20)
	s.Pools = []api.Pool{{From: 0, N: 1, St: api.Active}, {From: 1, N: 1, St: api.Drains}}
	s.L = []api.Lease{{Sub: 0, Addr: 0, Blk: 1, From: 2, Last: 20}, {Sub: 3, Addr: 1, Blk: 0, From: 20, Last: 20}, {Sub: 2, Addr: 1, Blk: 1, From: 0, Last: 20}}
	s.H = []api.Held{{Addr: 0, Blk: 0, Till: 21}, {Addr: 1, Blk: 2, Till: 20 + long}}
	return s
}

// full is a settled state of 32 leases, at the last tick: one of those of most bytes.
func full() api.State {
	s := api.State{D: mapping(27, 30, 8), P: api.Policy{Quota: 1, Idle: long, Hold: long, Pair: true}, Now: top}
	s.Pools = []api.Pool{{From: 0, N: 2}, {From: 3, N: 1, St: api.Drains}, {From: 2, N: 1}}
	for sub := range 32 {
		s.L = append(s.L, api.Lease{Sub: sub, Addr: sub / 8, Blk: sub % 8, From: sub % 2 * (top - sub), Last: top})
	}
	return s
}

// met are settled states that are met by asking alloc at random.
func met() []api.State {
	var all []api.State
	for seed, d := range []api.Det{mapping(30, 31, 3), mapping(27, 30, 8), mapping(31, 32, 2), mapping(30, 32, 0)} {
		chance := rand.New(rand.NewSource(int64(seed)))
		s := api.State{D: d, P: api.Policy{Quota: 3, Idle: 9, Hold: 4}, Pools: []api.Pool{{From: 0, N: addr.Size(d.Out)}}}
		for i := range 100 {
			s, _, _ = alloc.Do(s, anyReq(chance, s))
			if i%9 == 8 {
				all = append(all, settled(s))
			}
		}
	}
	return all
}

// states are many states that can be put.
func states() []api.State {
	return append([]api.State{plain(0), plain(1), plain(2000), plain(top), some(), full()}, met()...)
}

// anyReq is a request at random, that often can be done.
func anyReq(chance *rand.Rand, s api.State) api.Req {
	r := api.Req{Kind: chance.Intn(9), Sub: chance.Intn(addr.Size(s.D.In)), Addr: chance.Intn(addr.Size(s.D.Out)), Blk: chance.Intn(8), N: chance.Intn(4)}
	switch chance.Intn(4) {
	case 0, 1:
		r.Kind = api.RqGrant
	case 2:
		r.Kind = api.RqTick
	}
	if len(s.L) > 0 && (r.Kind == api.RqRefresh || r.Kind == api.RqRelease) {
		x := s.L[chance.Intn(len(s.L))]
		r.Sub, r.Addr, r.Blk = x.Sub, x.Addr, x.Blk
	}
	if r.Kind == api.RqTick {
		r.N = s.Now + chance.Intn(5)
	}
	if r.Kind == api.RqPolicy {
		r.P = api.Policy{Quota: 1 + chance.Intn(8), Idle: 1 + chance.Intn(12), Hold: chance.Intn(6)}
	}
	return r
}

// settled is a state as if all were used at its tick.
func settled(s api.State) api.State {
	s, _ = state.Settle(s, s.Now)
	return s
}

// unput are states that have no bytes: some may not be, each for one reason, and of some a Last is not Now.
func unput() []api.State {
	var l []api.State
	add := func(s api.State, change func(s *api.State)) {
		s.Pools, s.L, s.H = slices.Clone(s.Pools), slices.Clone(s.L), slices.Clone(s.H)
		change(&s)
		l = append(l, s)
	}
	add(api.State{}, func(s *api.State) {})
	add(plain(20), func(s *api.State) { s.D.Lo = 0 })
	add(plain(20), func(s *api.State) { s.D.Out = s.D.In })
	add(plain(20), func(s *api.State) { s.P.Quota = 9 })
	add(plain(20), func(s *api.State) { s.P.Idle = 0 })
	add(plain(20), func(s *api.State) { s.P.Hold = -1 })
	add(plain(20), func(s *api.State) { s.Now = -1 })
	add(plain(20), func(s *api.State) { s.Now = top + 1 })
	add(some(), func(s *api.State) { s.Pools[1].From = 0 })
	add(some(), func(s *api.State) { s.L[0], s.L[1] = s.L[1], s.L[0] })
	add(some(), func(s *api.State) { s.L[0].Sub = 4 })
	add(some(), func(s *api.State) { s.L[2].From = -1 })
	add(some(), func(s *api.State) { s.L[1].Last = 21 })
	add(some(), func(s *api.State) { s.H[0].Till = 20 })
	add(some(), func(s *api.State) { s.H[0].Blk = 1 })
	// These may be.
	add(some(), func(s *api.State) { s.L[0].Last = 19 })
	add(some(), func(s *api.State) { s.L[2].Last = 11 })
	add(some(), func(s *api.State) { s.Now = 19 + 1; s.L[0].Last, s.L[2].Last = 18, 19 })
	add(full(), func(s *api.State) { s.L[30].Last-- })
	return l
}

func grant(at, sub, addr, blk int) api.Event {
	return api.Event{Kind: api.EvGrant, At: at, A: sub, B: addr, C: blk}
}

func free(at, sub, addr, blk int) api.Event {
	return api.Event{Kind: api.EvFree, At: at, A: sub, B: addr, C: blk}
}

func add(at, from, n int) api.Event { return api.Event{Kind: api.EvAdd, At: at, A: from, B: n} }
func drain(at, k int) api.Event     { return api.Event{Kind: api.EvDrain, At: at, A: k} }
func size(at, k, n int) api.Event   { return api.Event{Kind: api.EvSize, At: at, A: k, B: n} }
func gone(at, k int) api.Event      { return api.Event{Kind: api.EvGone, At: at, A: k} }

func policy(at, quota, idle, hold int, pair bool) api.Event {
	return api.Event{Kind: api.EvPolicy, At: at, P: api.Policy{Quota: quota, Idle: idle, Hold: hold, Pair: pair}}
}

// list is a list of those.
func list(l ...api.Event) []api.Event { return l }

// badEvents are events that may not be, each for one part alone, at a tick.
func badEvents(at int) []api.Event {
	l := list(grant(at, -1, 0, 0), grant(at, 32, 0, 0), free(at, 0, -1, 0), free(at, 0, 4, 0), grant(at, 0, 0, -1), free(at, 0, 0, 8),
		add(at, 4, 1), add(at, 0, 0), add(at, 0, 5), drain(at, -1), drain(at, 3), size(at, 3, 1), size(at, 0, 5), gone(at, 3),
		policy(at, 0, 1, 0, false), policy(at, 1, long+1, 0, false), policy(at, 1, 1, -1, true), api.Event{Kind: -1, At: at}, api.Event{Kind: 7, At: at}, api.Event{Kind: math.MaxInt, At: at})
	for _, e := range list(grant(at, 1, 0, 2), drain(at, 0)) {
		e.P.Quota = 1
		l = append(l, e)
	}
	return l
}

// spread are n grants, each of two bytes behind its ticks: of the first one from ticks on, and each other one as many ticks later.
func spread(now, ticks, n int) []api.Event {
	var l []api.Event
	for i := range n {
		l = append(l, grant(now+ticks*(i+1), 31, 3, 7))
	}
	return l
}

// bytesOf are the bytes of a number.
func bytesOf(n int) []byte {
	var b []byte
	for ; n > 127; n >>= 7 {
		b = append(b, byte(n&127|128))
	}
	return append(b, byte(n))
}

// sealed are bytes, and their sum by another way: by the library's sums, which take each byte's lowest bit first.
func sealed(parts ...[]byte) []byte {
	b := slices.Concat(parts...)
	turned := make([]byte, len(b))
	for i := range b {
		turned[i] = bits.Reverse8(b[i])
	}
	sum := bits.Reverse32(crc32.ChecksumIEEE(turned))
	return append(b, byte(sum>>24), byte(sum>>16), byte(sum>>8), byte(sum))
}

// record are the bytes of a record, by another way than rec's.
func record(kind int, body []byte) []byte {
	return sealed([]byte{byte(kind)}, bytesOf(len(body)), body)
}

// begins are the bytes by which a file begins by a state.
func begins(s api.State) []byte {
	body, is := state.Put(s)
	if !is {
		panic("no state's bytes")
	}
	return record(1, body)
}

// goesOn are the bytes by which a file goes on by events from a tick on.
func goesOn(now int, l []api.Event) []byte {
	body, is := event.Put(now, l)
	if !is {
		panic("no events' bytes")
	}
	return record(2, body)
}

// file is one of bytes that are all sure.
func file(no int, parts ...[]byte) api.File {
	b := slices.Concat(parts...)
	return api.File{No: no, Data: b, Sure: len(b)}
}

// unsure is one of bytes of which only the first ones are sure.
func unsure(no, sure int, parts ...[]byte) api.File {
	f := file(no, parts...)
	f.Sure = sure
	return f
}

// numbered are empty files of these numbers.
func numbered(l ...int) []api.File {
	var all []api.File
	for _, no := range l {
		all = append(all, api.File{No: no})
	}
	return all
}

// upTo are the numbers from 1 to n.
func upTo(n int) []int {
	var l []int
	for i := range n {
		l = append(l, i+1)
	}
	return l
}

// diskOf is a disk of these files.
func diskOf(room int, l ...api.File) api.Disk { return api.Disk{Cap: room, F: l} }

// logOf is a log of these files, of which the last one is written.
func logOf(room, now int, l ...api.File) api.Wal {
	return api.Wal{D: diskOf(room, l...), No: l[len(l)-1].No, Now: now}
}

// used is how many bytes files have.
func used(l []api.File) int {
	n := 0
	for _, f := range l {
		n += len(f.Data)
	}
	return n
}

// ownDisk is a copy of a disk, in memory of its own.
func ownDisk(d api.Disk) api.Disk {
	l := make([]api.File, len(d.F))
	for i, f := range d.F {
		l[i] = api.File{No: f.No, Data: append([]byte{}, f.Data...), Sure: f.Sure}
	}
	return api.Disk{Cap: d.Cap, F: l}
}

// own is a copy of a log, in memory of its own.
func own(w api.Wal) api.Wal { return api.Wal{D: ownDisk(w.D), No: w.No, Now: w.Now} }

// with is a log, changed.
func with(w api.Wal, change func(w *api.Wal)) api.Wal {
	w = own(w)
	change(&w)
	return w
}

// isSameDisk tells whether two disks are the same, by another way than disk's.
func isSameDisk(a, b api.Disk) bool {
	if a.Cap != b.Cap || len(a.F) != len(b.F) {
		return false
	}
	for i := range a.F {
		if a.F[i].No != b.F[i].No || a.F[i].Sure != b.F[i].Sure || string(a.F[i].Data) != string(b.F[i].Data) {
			return false
		}
	}
	return true
}

// isSame tells whether two logs are the same.
func isSame(a, b api.Wal) bool { return isSameDisk(a.D, b.D) && a.No == b.No && a.Now == b.Now }

// isSameState tells whether two states are the same.
func isSameState(a, b api.State) bool {
	return a.D == b.D && a.P == b.P && a.Now == b.Now && slices.Equal(a.Pools, b.Pools) && slices.Equal(a.L, b.L) && slices.Equal(a.H, b.H)
}

// whyNotDisk are the conditions of a disk that may be that one breaks, each once.
func whyNotDisk(d api.Disk) []string {
	var why []string
	must := func(what string, holds bool) {
		if !holds && !slices.Contains(why, what) {
			why = append(why, what)
		}
	}
	must("Cap is from 0 to 65536", d.Cap >= 0 && d.Cap <= 65536)
	must("at most 12 files", len(d.F) <= 12)
	for i, f := range d.F {
		must("numbers are from 1 to 2^30", f.No >= 1 && f.No <= 1073741824)
		must("numbers rise", i == 0 || f.No > d.F[i-1].No)
		must("Sure is from 0 to how many bytes", f.Sure >= 0 && f.Sure <= len(f.Data))
	}
	must("at most Cap bytes", d.Cap < 0 || used(d.F) <= d.Cap)
	return why
}

// whyNot are the conditions of a log that may be that one breaks, each once.
func whyNot(w api.Wal) []string {
	why := whyNotDisk(w.D)
	if len(w.D.F) == 0 {
		why = append(why, "there is a file")
	} else if w.No != w.D.F[len(w.D.F)-1].No {
		why = append(why, "No is the last one's")
	}
	if w.Now < 0 || w.Now > 1073741824 {
		why = append(why, "Now is from 0 to 2^30")
	}
	return why
}

// otherFirst tells what First is to answer.
func otherFirst(b []byte) (api.State, int, bool) {
	if len(b) == 0 || b[0] != 1 {
		return api.State{}, 0, false
	}
	for size := range 1001 {
		head := append([]byte{1}, bytesOf(size)...)
		end := len(head) + size + 4
		if !bytes.HasPrefix(b, head) || end > len(b) {
			continue
		}
		body := b[len(head) : end-4]
		s, is := state.Read(body)
		if is && bytes.Equal(b[:end], record(1, body)) {
			return s, end, true
		}
	}
	return api.State{}, 0, false
}

// otherNew tells what New is to answer.
func otherNew(d api.Disk, s api.State) (api.Wal, api.Errno) {
	body, is := state.Put(s)
	if len(whyNotDisk(d)) > 0 || !is {
		return api.Wal{}, 1
	}
	no := 1
	for _, f := range d.F {
		no = max(no, f.No+1)
	}
	switch b := record(1, body); {
	case no == 1073741825:
		return api.Wal{}, 1
	case len(d.F) == 12 || used(d.F)+len(b) > d.Cap:
		return api.Wal{}, 9
	default:
		d = ownDisk(d)
		d.F = append(d.F, file(no, b))
		return api.Wal{D: d, No: no, Now: s.Now}, 0
	}
}

// otherAdd tells what Add is to answer.
func otherAdd(w api.Wal, l []api.Event) (api.Wal, api.Errno) {
	body, is := event.Put(w.Now, l)
	if len(whyNot(w)) > 0 || len(l) == 0 || !is || len(body) > 1000 {
		return own(w), 1
	}
	b := record(2, body)
	if used(w.D.F)+len(b) > w.D.Cap {
		return own(w), 9
	}
	w = own(w)
	last := len(w.D.F) - 1
	w.D.F[last] = file(w.No, w.D.F[last].Data, b)
	for _, x := range l {
		w.Now = x.At
	}
	return w, 0
}

// otherTurn tells what Turn is to answer.
func otherTurn(w api.Wal, s api.State) (api.Wal, api.Errno) {
	if len(whyNot(w)) > 0 {
		return own(w), 1
	}
	for _, f := range w.D.F {
		if f.No == w.No && len(f.Data) < 300 {
			return own(w), 0
		}
	}
	then, e := otherNew(w.D, s)
	if e > 0 {
		return own(w), e
	}
	return then, 0
}

// otherTrim tells what Trim is to answer: how many files go is counted ahead of dropping them.
func otherTrim(w api.Wal, now int) api.Wal {
	w = own(w)
	if len(whyNot(w)) > 0 {
		return w
	}
	dropped := 0
	for dropped+1 < len(w.D.F) {
		s, _, is := otherFirst(w.D.F[dropped+1].Data)
		if !is || now < s.Now || now-s.Now < 1000 {
			break
		}
		dropped++
	}
	w.D.F = w.D.F[dropped:]
	return w
}

// wantNew wants that of New, and of what was handed in that it stays.
func wantNew(t *testing.T, d api.Disk, s api.State) {
	t.Helper()
	want, wantE := otherNew(d, s)
	was := ownDisk(d)
	got, e := wal.New(d, s)
	if e != wantE || !isSame(got, want) || !isSameDisk(d, was) {
		t.Errorf("New(%v, %v): %v, %d, not %v, %d", was, s, got, e, want, wantE)
	}
}

// wantAdd wants what otherAdd tells, and that error.
func wantAdd(t *testing.T, w api.Wal, l []api.Event, wantE api.Errno) {
	t.Helper()
	want, otherE := otherAdd(w, l)
	got, e := wal.Add(w, l)
	if e != wantE || e != otherE || !isSame(got, want) {
		t.Errorf("Add(%v, %v): %v, %d, not %v, %d", w, l, got, e, want, wantE)
	}
}

// wantTurn wants what otherTurn tells, and that error.
func wantTurn(t *testing.T, w api.Wal, s api.State, wantE api.Errno) {
	t.Helper()
	want, otherE := otherTurn(w, s)
	got, e := wal.Turn(w, s)
	if e != wantE || e != otherE || !isSame(got, want) {
		t.Errorf("Turn(%v, %v): %v, %d, not %v, %d", w, s, got, e, want, wantE)
	}
}

// wantTrim wants the files of these numbers left, and all else as otherTrim tells; trimmed again it is the same.
func wantTrim(t *testing.T, w api.Wal, now int, left ...int) {
	t.Helper()
	got := wal.Trim(w, now)
	var numbers []int
	for _, f := range got.D.F {
		numbers = append(numbers, f.No)
	}
	if !slices.Equal(numbers, left) || !isSame(got, otherTrim(w, now)) || !isSame(wal.Trim(got, now), got) {
		t.Errorf("Trim(%v, %d): %v, not %v", w, now, got, left)
	}
}

// wantFirst wants what otherFirst tells, and that it is one, or none.
func wantFirst(t *testing.T, b []byte, wantIs bool) {
	t.Helper()
	want, wantEnd, otherIs := otherFirst(b)
	got, end, is := wal.First(b)
	if is != wantIs || is != otherIs || end != wantEnd || !isSameState(got, want) {
		t.Errorf("First(%v): %v, %d, %t, not %v, %d, %t", b, got, end, is, want, wantEnd, wantIs)
	}
}

// goods are logs that may be, most of them at an edge.
func goods() []api.Wal {
	junk := bytes.Repeat([]byte{7}, 40)
	return []api.Wal{
		logOf(0, 0, numbered(1)...),
		logOf(0, top, numbered(top)...),
		logOf(9000, 1, numbered(1, top)...),
		logOf(65536, top-1, numbered(top-1, top)...),
		logOf(9000, 5, numbered(upTo(12)...)...),
		logOf(40, 5, unsure(3, 0, junk)),
		logOf(41, 5, unsure(3, 39, junk)),
		logOf(9000, 5, unsure(3, 2, junk), unsure(8, 0, junk)),
		logOf(9000, 20, file(1, begins(some()))),
		logOf(9000, 30, file(2, begins(some()), goesOn(20, list(grant(30, 1, 0, 2))))),
		logOf(9000, 5, file(4, begins(plain(0))), unsure(6, 0, begins(plain(5)))),
		logOf(65536, 5, unsure(4, 7, make([]byte, 65536))),
		logOf(65536, 5, file(4, make([]byte, 65000)), file(7, make([]byte, 536))),
		story(),
	}
}

// story is a log of four files, of which two were long since begun by states.
func story() api.Wal {
	return logOf(9000, 5007,
		file(2, begins(plain(0)), goesOn(0, list(add(0, 0, 2), grant(4, 1, 0, 0)))),
		unsure(3, 40, begins(plain(500)), goesOn(500, list(policy(777, 3, 9, 9, true)))),
		file(7, begins(plain(1500))),
		unsure(9, 3, begins(plain(5000)), goesOn(5000, list(drain(5007, 0)))))
}

// reasoned is a log, and the one reason for which it may not be.
type reasoned struct {
	why string
	w   api.Wal
}

// bads are logs that may not be, each for the one reason that it is named by.
func bads() []reasoned {
	var l []reasoned
	bad := func(why string, w api.Wal, change func(w *api.Wal)) { l = append(l, reasoned{why, with(w, change)}) }
	for _, n := range []int{-1, math.MinInt, top + 1, math.MaxInt} {
		bad("Now is from 0 to 2^30", story(), func(w *api.Wal) { w.Now = n })
		bad("Now is from 0 to 2^30", logOf(0, 0, numbered(1)...), func(w *api.Wal) { w.Now = n })
	}
	for _, n := range []int{math.MinInt, -9, -1, 0, 1, 2, 3, 4, 6, 7, 8, 10, 12, 9 + 1<<32, top, math.MaxInt} {
		bad("No is the last one's", story(), func(w *api.Wal) { w.No = n })
	}
	bad("No is the last one's", logOf(9, 0, numbered(top-1, top)...), func(w *api.Wal) { w.No = top - 1 })
	bad("No is the last one's", logOf(9, 0, numbered(top-1)...), func(w *api.Wal) { w.No = top })
	for _, n := range []int{-1, 0, 1, top, math.MaxInt} {
		bad("there is a file", api.Wal{No: n}, func(w *api.Wal) {})
		bad("there is a file", story(), func(w *api.Wal) { w.No, w.D.F = n, nil })
		bad("there is a file", story(), func(w *api.Wal) { w.No, w.D.F = n, []api.File{} })
	}
	for _, n := range []int{-1, math.MinInt, 65537, math.MaxInt} {
		bad("Cap is from 0 to 65536", story(), func(w *api.Wal) { w.D.Cap = n })
	}
	bad("at most 12 files", logOf(9, 0, numbered(upTo(13)...)...), func(w *api.Wal) {})
	for _, n := range []int{0, -1, math.MinInt} {
		bad("numbers are from 1 to 2^30", story(), func(w *api.Wal) { w.D.F[0].No = n })
		bad("numbers are from 1 to 2^30", logOf(9, 0, numbered(n)...), func(w *api.Wal) {})
	}
	for _, n := range []int{top + 1, math.MaxInt} {
		bad("numbers are from 1 to 2^30", story(), func(w *api.Wal) { w.D.F[3].No, w.No = n, n })
	}
	bad("numbers rise", story(), func(w *api.Wal) { w.D.F[0].No = 3 })
	bad("numbers rise", story(), func(w *api.Wal) { w.D.F[2].No = 9 })
	bad("numbers rise", story(), func(w *api.Wal) { w.D.F[3].No, w.No = 7, 7 })
	bad("numbers rise", story(), func(w *api.Wal) { w.D.F[3].No, w.No = 1, 1 })
	for k := range 4 {
		for _, change := range []func(f *api.File){
			func(f *api.File) { f.Sure = -1 },
			func(f *api.File) { f.Sure = math.MinInt },
			func(f *api.File) { f.Sure = len(f.Data) + 1 },
			func(f *api.File) { f.Sure = math.MaxInt },
		} {
			bad("Sure is from 0 to how many bytes", story(), func(w *api.Wal) { change(&w.D.F[k]) })
		}
	}
	bad("at most Cap bytes", story(), func(w *api.Wal) { w.D.Cap = used(w.D.F) - 1 })
	bad("at most Cap bytes", story(), func(w *api.Wal) { w.D.Cap = 0 })
	return l
}

// notLogs are the logs of bads.
func notLogs() []api.Wal {
	var l []api.Wal
	for _, x := range bads() {
		l = append(l, x.w)
	}
	return l
}

// badDisks are disks that may not be.
func badDisks() []api.Disk {
	var l []api.Disk
	for _, x := range bads() {
		if len(whyNotDisk(x.w.D)) > 0 {
			l = append(l, x.w.D)
		}
	}
	return l
}

func TestP16_1May(t *testing.T) {
	for i, w := range goods() {
		if why := whyNot(w); !wal.May(w) || len(why) > 0 {
			t.Errorf("%d: may not be: %v: %v", i, w, why)
		}
	}
	for _, now := range []int{0, 1, 2, 65536, top - 1, top} {
		if w := with(story(), func(w *api.Wal) { w.Now = now }); !wal.May(w) {
			t.Errorf("may not be: %v", w)
		}
	}
	if w := with(story(), func(w *api.Wal) { w.D.Cap = used(w.D.F) }); !wal.May(w) {
		t.Errorf("may not be: %v", w)
	}
}

// Each of these breaks one condition alone.
func TestP16_1MayNot(t *testing.T) {
	for i, x := range bads() {
		if why := whyNot(x.w); !slices.Equal(why, []string{x.why}) {
			t.Errorf("%d: %v, not %s alone", i, why, x.why)
		}
		if wal.May(x.w) {
			t.Errorf("%d: may be, though not %s: %v", i, x.why, x.w)
		}
	}
}

// All numbers in each place of a small log.
func TestP16_1MayAll(t *testing.T) {
	numbers := []int{math.MinInt, -1, 0, 1, 2, 3, top - 1, top, top + 1, math.MaxInt}
	for _, first := range numbers {
		for _, last := range numbers {
			for _, no := range numbers {
				for _, now := range numbers {
					two := api.Wal{D: diskOf(9, numbered(first, last)...), No: no, Now: now}
					one := api.Wal{D: diskOf(9, numbered(last)...), No: no, Now: now}
					for _, w := range []api.Wal{one, two, {D: diskOf(9), No: no, Now: now}} {
						if want := len(whyNot(w)) == 0; wal.May(w) != want {
							t.Errorf("May(%v): not %t", w, want)
						}
					}
				}
			}
		}
	}
}

func TestP16_1Same(t *testing.T) {
	l := append(append(goods(), notLogs()...), api.Wal{}, with(story(), func(w *api.Wal) { w.D.F[2].Data[5]++ }))
	for _, a := range l {
		for _, b := range l {
			if want := isSame(a, b); wal.Same(a, b) != want {
				t.Errorf("Same(%v, %v): not %t", a, b, want)
			}
		}
		if !wal.Same(a, own(a)) {
			t.Errorf("not the same as its copy: %v", a)
		}
	}
}

// A log is not the same as another one that differs in one part alone.
func TestP16_1SameEachPart(t *testing.T) {
	changes := []func(w *api.Wal){
		func(w *api.Wal) { w.No++ },
		func(w *api.Wal) { w.No += 1 << 32 },
		func(w *api.Wal) { w.Now++ },
		func(w *api.Wal) { w.Now = -w.Now },
		func(w *api.Wal) { w.No, w.Now = w.Now, w.No },
		func(w *api.Wal) { w.D.Cap++ },
		func(w *api.Wal) { w.D.F = w.D.F[1:] },
		func(w *api.Wal) { w.D.F = w.D.F[:3] },
		func(w *api.Wal) { w.D.F = append(w.D.F, api.File{No: 10}) },
		func(w *api.Wal) { w.D.F[0], w.D.F[1] = w.D.F[1], w.D.F[0] },
		func(w *api.Wal) { w.D.F = nil },
	}
	for k := range 4 {
		changes = append(changes,
			func(w *api.Wal) { w.D.F[k].No++ },
			func(w *api.Wal) { w.D.F[k].Sure-- },
			func(w *api.Wal) { w.D.F[k].Data[0]++ },
			func(w *api.Wal) { w.D.F[k].Data[len(w.D.F[k].Data)-1]++ },
			func(w *api.Wal) { w.D.F[k].Data = w.D.F[k].Data[1:] },
			func(w *api.Wal) { w.D.F[k].Data = append(w.D.F[k].Data, 0) },
			func(w *api.Wal) { w.D.F[k].Data = nil })
	}
	for i, change := range changes {
		if x := with(story(), change); wal.Same(story(), x) || wal.Same(x, story()) || !wal.Same(x, own(x)) {
			t.Errorf("change %d is none", i)
		}
	}
}

// A state's record is the first one, whatever stands behind it.
func TestP16_1First(t *testing.T) {
	for _, s := range states() {
		b := begins(s)
		for i, behind := range [][]byte{nil, {0}, {1}, {255, 255}, b, b[:9], goesOn(s.Now, list(drain(s.Now, 0))), make([]byte, 3000)} {
			got, end, is := wal.First(slices.Concat(b, behind))
			if !is || end != len(b) || !isSameState(got, s) {
				t.Fatalf("First(%v) with %d behind: %v, %d, %t", b, i, got, end, is)
			}
			wantFirst(t, slices.Concat(b, behind), true)
		}
	}
}

// Of another kind, and of bytes that are no state's, there is none.
func TestP16_1FirstNot(t *testing.T) {
	for _, s := range states() {
		body, _ := state.Put(s)
		for kind := range 256 {
			wantFirst(t, record(kind, body), kind == 1)
		}
		whole := begins(s)
		for k := range whole {
			wantFirst(t, whole[:k], false)
			wantFirst(t, whole[k+1:], false)
		}
		for k := range body {
			wantFirst(t, record(1, body[:k]), false)
			wantFirst(t, record(1, body[k+1:]), false)
		}
		told, _ := event.Put(s.Now, list(grant(s.Now, 1, 0, 0)))
		for _, b := range [][]byte{append(slices.Clone(body), 0), append([]byte{0}, body...), slices.Concat(body, body), told, nil, make([]byte, 1000)} {
			wantFirst(t, record(1, b), false)
			wantFirst(t, slices.Concat(record(1, b), whole), false)
		}
		wantFirst(t, append([]byte{1}, whole...), false)
		wantFirst(t, slices.Concat(goesOn(0, list(grant(1, 1, 0, 0))), whole), false)
		// The length's bytes must be as few as can be, and tell of 1000 at most.
		wantFirst(t, sealed([]byte{1}, bytesOf(len(body)+128), body), false)
		wantFirst(t, sealed([]byte{1, byte(len(body)) | 128, byte(len(body) >> 7), 0}, body), false)
		wantFirst(t, sealed([]byte{1}, bytesOf(1001), body, make([]byte, 1001-len(body))), false)
	}
	wantFirst(t, nil, false)
	wantFirst(t, []byte{}, false)
	for c := range 256 {
		wantFirst(t, []byte{byte(c)}, false)
		wantFirst(t, bytes.Repeat([]byte{byte(c)}, 50), false)
	}
}

// A record whose sum is another one is none.
func TestP16_1FirstSum(t *testing.T) {
	for _, s := range []api.State{plain(0), some(), full()} {
		whole := begins(s)
		for k := range whole {
			for bit := range 8 {
				b := slices.Clone(whole)
				b[k] ^= 1 << bit
				wantFirst(t, b, false)
				wantFirst(t, slices.Concat(b, whole), false)
			}
		}
		for k := 1; k <= 4; k++ {
			wantFirst(t, append(slices.Clone(whole[:len(whole)-k]), make([]byte, k)...), false)
		}
	}
}

// Bodies that are a state's but for one byte are mostly none's; of those that are, another state is told.
func TestP16_1FirstOtherBodies(t *testing.T) {
	are := 0
	for _, s := range []api.State{plain(0), plain(20), some(), full()} {
		body, _ := state.Put(s)
		for k := range body {
			for bit := range 8 {
				b := slices.Clone(body)
				b[k] ^= 1 << bit
				_, is := state.Read(b)
				wantFirst(t, record(1, b), is)
				if is {
					are++
				}
			}
		}
	}
	if are < 20 {
		t.Errorf("only %d are states", are)
	}
}

// rooms are disks of all kinds that may be, without room for more.
func rooms() []api.Disk {
	l := []api.Disk{diskOf(0), {F: []api.File{}}}
	for _, w := range goods() {
		w.D.Cap = used(w.D.F)
		l = append(l, w.D)
	}
	for n := range 12 {
		l = append(l, diskOf(0, numbered(upTo(n)...)...))
	}
	return append(l, diskOf(40, unsure(3, 0, make([]byte, 40))), diskOf(0, numbered(top-1)...), diskOf(7, file(1, make([]byte, 7)), api.File{No: top - 1}))
}

// New begins a file behind all others, all of it sure; the others stay as they are.
func TestP16_2New(t *testing.T) {
	for _, d := range rooms() {
		for _, s := range states() {
			b := begins(s)
			just := used(d.F) + len(b)
			for _, room := range []int{just, just + 1, 65536} {
				if just > 65536 || room > 65536 || len(d.F) == 12 || len(d.F) > 0 && d.F[len(d.F)-1].No == top {
					continue
				}
				x := d
				x.Cap = room
				w, e := wal.New(x, s)
				last := len(d.F)
				if e != api.OK || !wal.May(w) || len(w.D.F) != last+1 || w.D.Cap != room || w.No != w.D.F[last].No || w.Now != s.Now {
					t.Fatalf("New(%v, %v): %v, %d", x, s, w, e)
				}
				if f := w.D.F[last]; !bytes.Equal(f.Data, b) || f.Sure != len(b) || !isSameDisk(diskOf(room, w.D.F[:last]...), x) {
					t.Fatalf("New(%v, %v): %v", x, s, w)
				}
				wantNew(t, x, s)
			}
		}
	}
}

// The number is one more than the last one's, whatever stands ahead of that.
func TestP16_2NewNumber(t *testing.T) {
	for _, x := range []struct {
		l    []int
		want int // 0 if there is none
	}{
		{nil, 1}, {[]int{1}, 2}, {[]int{2}, 3}, {[]int{7}, 8}, {[]int{1, 2}, 3}, {[]int{1, 9}, 10}, {[]int{3, 5, 6}, 7},
		{[]int{1, top - 1}, top}, {[]int{top - 1}, top}, {[]int{top - 2}, top - 1}, {upTo(11), 12},
		{[]int{top}, 0}, {[]int{1, top}, 0}, {[]int{top - 1, top}, 0},
	} {
		w, e := wal.New(diskOf(9000, numbered(x.l...)...), plain(3))
		switch {
		case x.want == 0 && (e != api.ErrArg || !isSame(w, api.Wal{})):
			t.Errorf("New of %v: %v, %d", x.l, w, e)
		case x.want > 0 && (e != api.OK || w.No != x.want || w.D.F[len(x.l)].No != w.No):
			t.Errorf("New of %v: %v, %d, not %d", x.l, w, e, x.want)
		}
	}
}

// wantNoNew wants that error of New, and a zero log.
func wantNoNew(t *testing.T, d api.Disk, s api.State, want api.Errno) {
	t.Helper()
	w, e := wal.New(d, s)
	if e != want || !isSame(w, api.Wal{}) || w.D.F != nil {
		t.Errorf("New(%v, %v): %v, %d, not %d", d, s, w, e, want)
	}
	wantNew(t, d, s)
}

func TestP16_2NewNot(t *testing.T) {
	for _, d := range badDisks() {
		for _, s := range append(unput(), plain(0), some()) {
			wantNoNew(t, d, s, api.ErrArg)
		}
	}
	// What can't be put is told ahead of what there is no room for.
	fulls := []api.Disk{diskOf(0), diskOf(9000, numbered(upTo(12)...)...), diskOf(0, numbered(upTo(12)...)...)}
	for _, s := range unput() {
		for _, d := range append(fulls, diskOf(9000), diskOf(65536, numbered(4, 9)...), story().D) {
			wantNoNew(t, d, s, api.ErrArg)
		}
	}
	for _, s := range states() {
		for _, d := range fulls {
			wantNoNew(t, d, s, api.ErrFull)
		}
		// So is a last number behind which there is none.
		wantNoNew(t, diskOf(9000, numbered(top)...), s, api.ErrArg)
		wantNoNew(t, diskOf(0, numbered(top)...), s, api.ErrArg)
		wantNoNew(t, diskOf(9000, append(numbered(upTo(11)...), api.File{No: top})...), s, api.ErrArg)
	}
}

// Without room for one byte more, there is none.
func TestP16_2NewRoom(t *testing.T) {
	for _, d := range rooms() {
		if len(d.F) == 12 || len(d.F) > 0 && d.F[len(d.F)-1].No == top {
			continue
		}
		for _, s := range []api.State{plain(0), some(), full()} {
			for _, less := range []int{1, 2, len(begins(s)) - 1, len(begins(s))} {
				if d.Cap = used(d.F) + len(begins(s)) - less; d.Cap <= 65536 {
					wantNoNew(t, d, s, api.ErrFull)
				}
			}
		}
	}
}

// There is always room for a twelfth file, and never for one more.
func TestP16_2NewFiles(t *testing.T) {
	d := diskOf(9000)
	for n := range 14 {
		w, e := wal.New(d, plain(n))
		switch {
		case n < 12 && (e != api.OK || w.No != n+1 || w.Now != n || len(w.D.F) != n+1):
			t.Errorf("%d files: %v, %d", n, w, e)
		case n >= 12:
			wantNoNew(t, d, plain(n), api.ErrFull)
			continue
		}
		d = w.D
	}
}

// lists are lists of events that go on from a tick.
func lists(now int) [][]api.Event {
	kinds := list(grant(now, 1, 0, 2), free(now, 31, 3, 7), add(now, 0, 2), drain(now, 2), size(now, 1, 4), gone(now, 0), policy(now, 8, long, long, true))
	l := [][]api.Event{kinds}
	for _, e := range kinds {
		l = append(l, list(e), list(e, e, e))
	}
	if later := now + 9; later <= top {
		l = append(l, list(grant(later, 3, 1, 1)), list(grant(now, 3, 1, 1), free(later-1, 3, 1, 1), free(later, 3, 1, 1)))
	}
	return append(l, spread(now, 0, 200), list(grant(top, 0, 0, 0)), list(drain(now, 0), drain(top, 0)))
}

// What is added stands behind what the file has, all of which is sure then; other files stay, and Now is the last one's At.
func TestP16_3Add(t *testing.T) {
	for _, w := range goods() {
		for _, l := range lists(w.Now) {
			b := goesOn(w.Now, l)
			last := len(w.D.F) - 1
			w.D.Cap = used(w.D.F) + len(b)
			if w.D.Cap > 65536 {
				continue
			}
			x, e := wal.Add(w, l)
			if e != api.OK || !wal.May(x) || x.No != w.No || x.Now != l[len(l)-1].At || len(x.D.F) != last+1 || x.D.Cap != w.D.Cap {
				t.Fatalf("Add(%v, %v): %v, %d", w, l, x, e)
			}
			if f := x.D.F[last]; f.No != w.No || f.Sure != len(f.Data) || !bytes.Equal(f.Data, slices.Concat(w.D.F[last].Data, b)) || !isSameDisk(diskOf(0, x.D.F[:last]...), diskOf(0, w.D.F[:last]...)) {
				t.Fatalf("Add(%v, %v): %v", w, l, x)
			}
			wantAdd(t, w, l, api.OK)
			// With one byte less there is no room.
			w.D.Cap--
			wantAdd(t, w, l, api.ErrFull)
			w.D.Cap = used(w.D.F)
			wantAdd(t, w, l, api.ErrFull)
		}
	}
}

// What is wrong of a list is told ahead of that there is no room.
func TestP16_3AddNot(t *testing.T) {
	tight := with(story(), func(w *api.Wal) { w.D.Cap = used(w.D.F) })
	for _, w := range []api.Wal{story(), tight, logOf(9000, 3, numbered(1)...), logOf(0, 3, numbered(1)...)} {
		now := w.Now
		wantAdd(t, w, nil, api.ErrArg)
		wantAdd(t, w, []api.Event{}, api.ErrArg)
		for _, e := range badEvents(now) {
			wantAdd(t, w, list(e), api.ErrArg)
			wantAdd(t, w, list(e, grant(now, 0, 0, 0)), api.ErrArg)
			wantAdd(t, w, list(grant(now, 0, 0, 0), e), api.ErrArg)
			wantAdd(t, w, list(grant(now, 0, 0, 0), e, drain(now, 0)), api.ErrArg)
		}
		for _, at := range []int{math.MinInt, -top, -1, 0, 1, now - 2, now - 1, top + 1, 1<<32 + now, math.MaxInt} {
			wantAdd(t, w, list(grant(at, 0, 0, 0)), api.ErrArg)
			wantAdd(t, w, list(grant(at, 0, 0, 0), drain(now, 0)), api.ErrArg)
			wantAdd(t, w, list(grant(now, 0, 0, 0), drain(at, 0)), api.ErrArg)
		}
		wantAdd(t, w, list(grant(now+5, 0, 0, 0), drain(now+4, 0)), api.ErrArg)
		wantAdd(t, w, list(grant(now, 0, 0, 0), grant(now+5, 0, 0, 0), drain(now+4, 0), drain(now+9, 1)), api.ErrArg)
		// There are at most 400 numbers, whatever bytes they have.
		wantAdd(t, w, spread(now, 0, 201), api.ErrArg)
		wantAdd(t, w, slices.Repeat(list(drain(now, 0)), 201), api.ErrArg)
		wantAdd(t, w, slices.Repeat(list(policy(now, 1, 1, 1, false)), 81), api.ErrArg)
	}
}

// Of events a record has at most 1000 bytes.
func TestP16_3AddBytes(t *testing.T) {
	for _, now := range []int{0, 3, 5007} {
		w := with(story(), func(w *api.Wal) { w.Now, w.D.Cap = now, 65536 })
		tight := with(w, func(w *api.Wal) { w.D.Cap = used(w.D.F) })
		// Ticks of three bytes, and two for whose block it is, make 1000 of 200; the last one's are other ones.
		most := spread(now, 1024, 199)
		end := most[198].At
		for _, x := range []struct {
			last  api.Event
			size  int
			wantE api.Errno
		}{
			{drain(end, 0), 997, api.OK}, {grant(end+1023, 31, 3, 7), 999, api.OK}, {grant(end+1024, 0, 0, 0), 999, api.OK},
			{grant(end+1024, 31, 3, 7), 1000, api.OK}, {drain(end+1<<17, 0), 1000, api.OK}, {grant(end+1<<17-1, 31, 3, 7), 1000, api.OK},
			{grant(end+1<<17, 31, 3, 7), 1001, api.ErrArg}, {grant(end+1<<24, 0, 0, 0), 1001, api.ErrArg}, {grant(end+1<<24, 31, 3, 7), 1002, api.ErrArg},
		} {
			l := append(slices.Clone(most), x.last)
			if b, is := event.Put(now, l); !is || len(b) != x.size {
				t.Fatalf("%d bytes, %t, not %d", len(b), is, x.size)
			}
			wantAdd(t, w, l, x.wantE)
			if x.wantE == api.OK {
				x.wantE = api.ErrFull
			}
			wantAdd(t, tight, l, x.wantE)
		}
		for _, ticks := range []int{1 << 17, 1 << 20, 1 << 22} {
			wantAdd(t, w, spread(now, ticks, 200), api.ErrArg)
			wantAdd(t, tight, spread(now, ticks, 200), api.ErrArg)
		}
	}
}

// To a log that may not be nothing is added, be the events such that can't be, or not, and be there room, or not.
func TestP16_3AddToNone(t *testing.T) {
	for _, w := range notLogs() {
		for _, l := range [][]api.Event{nil, list(drain(0, 0)), list(drain(w.Now, 0)), list(drain(5007, 0)), list(drain(top, 0)), list(drain(-1, 0)), spread(5007, 1<<17, 200)} {
			wantAdd(t, w, l, api.ErrArg)
		}
	}
}

// Of a log all of whose files are unsure only the last one is made sure.
func TestP16_3AddMakesSure(t *testing.T) {
	w := logOf(9000, 7, unsure(1, 0, begins(plain(0))), unsure(4, 3, begins(plain(3))), unsure(6, 0, begins(plain(7))))
	x, e := wal.Add(w, list(add(8, 0, 1)))
	want := logOf(9000, 8, unsure(1, 0, begins(plain(0))), unsure(4, 3, begins(plain(3))), file(6, begins(plain(7)), record(2, []byte{18, 1})))
	if e != api.OK || !isSame(x, want) {
		t.Errorf("%v, %d, not %v", x, e, want)
	}
}

// At random, as by the other way.
func TestP16_3AddAny(t *testing.T) {
	chance := rand.New(rand.NewSource(4))
	happened := map[api.Errno]int{}
	for range 6000 {
		w := story()
		w.D.Cap = used(w.D.F) + chance.Intn(60)
		var l []api.Event
		at := w.Now
		for range chance.Intn(9) {
			at += chance.Intn(40) - chance.Intn(20)/19
			l = append(l, grant(at, chance.Intn(33)-chance.Intn(20)/19, chance.Intn(4), chance.Intn(8)))
			if chance.Intn(3) == 0 {
				l[len(l)-1] = policy(at, 1+chance.Intn(8), 1+chance.Intn(9999), chance.Intn(9999), chance.Intn(2) == 0)
			}
		}
		_, e := otherAdd(w, l)
		wantAdd(t, w, l, e)
		happened[e]++
	}
	if len(happened) != 3 || happened[api.OK] < 500 || happened[api.ErrArg] < 500 || happened[api.ErrFull] < 500 {
		t.Errorf("happened: %v", happened)
	}
}

// From 300 bytes on another file is begun.
func TestP16_4Turn(t *testing.T) {
	for _, s := range states() {
		for _, size := range []int{0, 1, 34, 255, 256, 298, 299, 300, 301, 302, 511, 512, 1000, 9000, 30000} {
			for _, sure := range []int{0, size / 2, size} {
				for _, ahead := range [][]api.File{nil, {file(2, make([]byte, 299))}, {file(1, make([]byte, 300)), unsure(2, 7, make([]byte, 5000))}} {
					w := logOf(65536, 3, append(slices.Clone(ahead), unsure(4, sure, make([]byte, size)))...)
					wantTurn(t, w, s, api.OK)
					x, _ := wal.Turn(w, s)
					if size < 300 {
						if !isSame(x, w) {
							t.Errorf("%d bytes: %v", size, x)
						}
						continue
					}
					last := len(ahead) + 1
					if x.No != 5 || x.Now != s.Now || len(x.D.F) != last+1 || !wal.May(x) || !isSameDisk(diskOf(65536, x.D.F[:last]...), w.D) || !isSameDisk(diskOf(0, x.D.F[last]), diskOf(0, file(5, begins(s)))) {
						t.Errorf("%d bytes: %v", size, x)
					}
				}
			}
		}
	}
}

// Only the last file's bytes count.
func TestP16_4TurnLast(t *testing.T) {
	short := logOf(65536, 3, file(2, make([]byte, 9000)), file(3, make([]byte, 299)))
	wantTurn(t, short, plain(9), api.OK)
	if x, _ := wal.Turn(short, plain(9)); !isSame(x, short) {
		t.Errorf("begins another one: %v", x)
	}
	filled := logOf(65536, 3, file(2, make([]byte, 1)), file(3, make([]byte, 300)))
	wantTurn(t, filled, plain(9), api.OK)
	if x, _ := wal.Turn(filled, plain(9)); x.No != 4 {
		t.Errorf("begins no other one: %v", x)
	}
}

// big is a log of so many files, up to a number, of which the last one has 300 bytes.
func big(files, no int) api.Wal {
	var l []api.File
	for i := range files {
		l = append(l, api.File{No: no - files + 1 + i})
	}
	l[files-1] = unsure(no, 7, make([]byte, 300))
	return logOf(9000, 8, l...)
}

func TestP16_4TurnNot(t *testing.T) {
	for _, w := range notLogs() {
		for _, s := range append(unput(), plain(0), some()) {
			wantTurn(t, w, s, api.ErrArg)
		}
		// That the file is long helps nothing.
		if len(w.D.F) > 0 {
			filled := with(w, func(w *api.Wal) { w.D.F[len(w.D.F)-1].Data = make([]byte, 300) })
			if len(whyNot(filled)) > 0 {
				wantTurn(t, filled, plain(0), api.ErrArg)
			}
		}
	}
	for _, s := range unput() {
		// As long as the file is short, nobody asks for the state's bytes.
		for _, w := range goods() {
			if len(w.D.F[len(w.D.F)-1].Data) < 300 {
				wantTurn(t, w, s, api.OK)
			}
		}
		wantTurn(t, big(1, 5), s, api.ErrArg)
		wantTurn(t, big(12, 12), s, api.ErrArg)
		wantTurn(t, big(2, top), s, api.ErrArg)
	}
	for _, s := range states() {
		wantTurn(t, big(11, 11), s, api.OK)
		wantTurn(t, big(12, 12), s, api.ErrFull)
		wantTurn(t, big(12, 40), s, api.ErrFull)
		wantTurn(t, big(1, top-1), s, api.OK)
		wantTurn(t, big(1, top), s, api.ErrArg)
		wantTurn(t, big(12, top), s, api.ErrArg)
		w := big(3, 9)
		w.D.Cap = 300 + len(begins(s))
		wantTurn(t, w, s, api.OK)
		w.D.Cap--
		wantTurn(t, w, s, api.ErrFull)
		w.D.Cap = 300
		wantTurn(t, w, s, api.ErrFull)
	}
}

// begun is a log of files, of numbers from 3 on, each begun by a state of one of these ticks; where one is below 0 the file begins by none.
func begun(ticks ...int) api.Wal {
	var l []api.File
	for i, now := range ticks {
		f := unsure(3+2*i, min(i, 8), []byte("no state"))
		if now >= 0 {
			f = unsure(3+2*i, i, begins(plain(now)), []byte("and more"))
		}
		l = append(l, f)
	}
	return logOf(9000, 17, l...)
}

func TestP16_4Trim(t *testing.T) {
	w := story()
	for _, x := range []struct {
		now  int
		left []int
	}{
		{math.MinInt, []int{2, 3, 7, 9}}, {-1, []int{2, 3, 7, 9}}, {0, []int{2, 3, 7, 9}}, {1000, []int{2, 3, 7, 9}}, {1499, []int{2, 3, 7, 9}},
		{1500, []int{3, 7, 9}}, {1501, []int{3, 7, 9}}, {2499, []int{3, 7, 9}}, {2500, []int{7, 9}}, {2501, []int{7, 9}}, {5999, []int{7, 9}},
		{6000, []int{9}}, {6001, []int{9}}, {top, []int{9}}, {1 << 32, []int{9}}, {math.MaxInt, []int{9}},
	} {
		wantTrim(t, w, x.now, x.left...)
		got := wal.Trim(w, x.now)
		if !wal.May(got) || got.No != 9 || got.Now != 5007 || got.D.Cap != 9000 || !isSameDisk(got.D, diskOf(9000, w.D.F[4-len(x.left):]...)) {
			t.Errorf("Trim at %d: %v", x.now, got)
		}
	}
}

// The one that is written stays, also if it is the only one.
func TestP16_4TrimOne(t *testing.T) {
	for _, w := range []api.Wal{begun(0), begun(-1), begun(5000), begun(top)} {
		for _, now := range []int{math.MinInt, 0, 1000, top, math.MaxInt} {
			wantTrim(t, w, now, 3)
		}
	}
}

// A file whose next one begins by no state stays, and those behind it, too.
func TestP16_4TrimNoState(t *testing.T) {
	for _, x := range []struct {
		w    api.Wal
		left []int
	}{
		{begun(0, 10, 20, 30), []int{9}}, {begun(-1, 10, 20, 30), []int{9}}, {begun(0, -1, 20, 30), []int{3, 5, 7, 9}},
		{begun(0, 10, -1, 30), []int{5, 7, 9}}, {begun(0, 10, 20, -1), []int{7, 9}}, {begun(-1, -1, 20, 30), []int{3, 5, 7, 9}},
		{begun(-1, 10, -1, 30), []int{5, 7, 9}}, {begun(-1, 10, 20, -1), []int{7, 9}}, {begun(0, -1), []int{3, 5}}, {begun(-1, 0), []int{5}},
	} {
		for _, now := range []int{2000, top, math.MaxInt} {
			wantTrim(t, x.w, now, x.left...)
		}
	}
	// A state that is torn, or not whole, or of another kind, is none.
	b := begins(plain(10))
	body, _ := state.Put(plain(10))
	torn := slices.Clone(b)
	torn[len(torn)-1] ^= 0xa5
	for _, next := range [][]byte{nil, b[:len(b)-1], b[1:], torn, record(2, body), record(0, body), record(1, body[1:]), goesOn(0, list(grant(4, 1, 0, 0)))} {
		wantTrim(t, logOf(9000, 17, file(1, b), file(2, next), file(3, b), file(4, b)), math.MaxInt, 1, 2, 3, 4)
		wantTrim(t, logOf(9000, 17, file(1, b), file(2, b), file(3, next), file(4, b)), math.MaxInt, 2, 3, 4)
	}
}

// A file that is not old holds back those behind it, be they as old as can be.
func TestP16_4TrimFirstOnes(t *testing.T) {
	wantTrim(t, begun(0, 5000, 10, 20), 1020, 3, 5, 7, 9)
	wantTrim(t, begun(0, 5000, 10, 20), 5999, 3, 5, 7, 9)
	wantTrim(t, begun(0, 5000, 10, 20), 6000, 9)
	wantTrim(t, begun(0, 10, 5000, 20), 1010, 5, 7, 9)
	wantTrim(t, begun(0, 10, 5000, 20), 5999, 5, 7, 9)
	wantTrim(t, begun(7000, 10, 10, 10), 1009, 3, 5, 7, 9)
	wantTrim(t, begun(7000, 10, 10, 10), 1010, 9)
}

// At the greatest ticks, and the least ones.
func TestP16_4TrimEdges(t *testing.T) {
	for _, at := range []int{0, 1, 23, 24, 999, 1000, 1001, top - 1000, top - 1, top} {
		w := begun(0, at)
		for _, now := range []int{math.MinInt, math.MinInt + 1, math.MinInt + 999, math.MinInt + 1000, -top - 1000, -1001, -1000, -1, 0, at, at + 998, at + 999} {
			wantTrim(t, w, now, 3, 5)
		}
		for _, now := range []int{at + 1000, at + 1001, top + 1000, 1 << 31, 1 << 62, math.MaxInt - 1000, math.MaxInt} {
			wantTrim(t, w, now, 5)
		}
	}
}

// What may not be stays, however old its files are.
func TestP16_4TrimNone(t *testing.T) {
	for _, w := range append(notLogs(), api.Wal{}) {
		for _, now := range []int{math.MinInt, 0, 2500, top, math.MaxInt} {
			if x := wal.Trim(w, now); !isSame(x, w) {
				t.Errorf("Trim(%v, %d): %v", w, now, x)
			}
		}
	}
}

// At random, as by the other way, and twice as once.
func TestP16_4TrimAny(t *testing.T) {
	chance := rand.New(rand.NewSource(6))
	dropped := map[int]int{}
	for range 4000 {
		var ticks []int
		for range 1 + chance.Intn(12) {
			ticks = append(ticks, chance.Intn(3000)-chance.Intn(3)/2*chance.Intn(9000))
		}
		w := begun(ticks...)
		now := chance.Intn(5000)
		got := wal.Trim(w, now)
		if !isSame(got, otherTrim(w, now)) || !isSame(wal.Trim(got, now), got) || !wal.May(got) {
			t.Fatalf("Trim(%v, %d): %v", w, now, got)
		}
		dropped[len(ticks)-len(got.D.F)]++
	}
	if len(dropped) < 7 {
		t.Errorf("dropped: %v", dropped)
	}
}

// alone tells to which state a file comes that begins by a state, and goes on by events: false if it is no such file.
func alone(b []byte) (api.State, bool) {
	s, at, is := wal.First(b)
	now := s.Now
	for is && at < len(b) {
		r, end, e := rec.Get(b, at)
		l, read := event.Read(now, r.Body)
		if e != api.OK || r.Kind != api.RecEvents || !read || len(l) == 0 {
			return s, false
		}
		if s, e = state.All(s, l); e != api.OK {
			return s, false
		}
		at, now = end, l[len(l)-1].At
	}
	return s, is
}

// wantTold wants that each file can be read alone, and comes to where the next one begins; that all is sure; and that the last one comes to that state.
func wantTold(t *testing.T, w api.Wal, s api.State) {
	t.Helper()
	if !wal.May(w) {
		t.Fatalf("may not be: %v", w)
	}
	for i, f := range w.D.F {
		got, is := alone(f.Data)
		next := s
		if i+1 < len(w.D.F) {
			next, _, _ = wal.First(w.D.F[i+1].Data)
		}
		got, settles := state.Settle(got, next.Now)
		if !is || !settles || f.Sure != len(f.Data) || !isSameState(got, next) {
			t.Fatalf("file %d: %v, %t, not %v", f.No, got, is, next)
		}
	}
	for _, picks := range [][]int{nil, {0, 1}, {5, 1, 3, 0}} {
		if d := disk.Crash(w.D, picks); !isSameDisk(d, w.D) {
			t.Fatalf("not sure: %v, crashed %v", w.D, d)
		}
	}
}

// What is asked at random is told again by each file alone, whatever a crash does.
func TestP16_5Any(t *testing.T) {
	turned, trimmed := 0, 0
	for seed := range 20 {
		chance := rand.New(rand.NewSource(int64(seed)))
		s := api.State{D: mapping(30, 31, 3), P: api.Policy{Quota: 3, Idle: 9, Hold: 4}}
		w, e := wal.New(diskOf(6000), s)
		for range 400 {
			if e != api.OK {
				t.Fatal(e)
			}
			r := anyReq(chance, s)
			if chance.Intn(20) == 0 {
				r = api.Req{Kind: api.RqTick, N: s.Now + chance.Intn(900)}
			}
			then, l, _ := alloc.Do(s, r)
			s = then
			if len(l) > 0 {
				if w, e = wal.Add(w, l); e != api.OK {
					t.Fatal(e)
				}
			}
			files := len(w.D.F)
			w, e = wal.Turn(w, settled(s))
			turned += len(w.D.F) - files
			files = len(w.D.F)
			w = wal.Trim(w, s.Now)
			trimmed += files - len(w.D.F)
			wantTold(t, w, settled(s))
		}
	}
	if turned < 50 || trimmed < 40 {
		t.Errorf("turned %d times, trimmed %d", turned, trimmed)
	}
}

// What is added stands sure in the file, of which each crash keeps all; what was ahead of it stays as its first bytes.
func TestP16_5AddedIsSure(t *testing.T) {
	for _, w := range goods() {
		for _, l := range lists(w.Now) {
			w.D.Cap = 65536
			x, e := wal.Add(w, l)
			if e != api.OK {
				continue
			}
			want := slices.Concat(w.D.F[len(w.D.F)-1].Data, goesOn(w.Now, l))
			for _, picks := range [][]int{nil, {0, 1, 0, 1, 0, 1}, {9, 1, 9, 1, 9, 1}, {-1}} {
				d := disk.Crash(x.D, picks)
				if at := disk.Find(d, w.No); at < 0 || !bytes.Equal(d.F[at].Data, want) {
					t.Fatalf("Add(%v, %v), crashed: %v", w, l, d)
				}
			}
		}
	}
}

// roomyLog is a log whose disk's files, and their bytes, are parts of greater lists, in one memory; it tells whether that memory is as it was.
func roomyLog(w api.Wal) (api.Wal, func() bool) {
	var whole []byte
	for _, f := range w.D.F {
		whole = append(whole, f.Data...)
	}
	whole = append(whole, "BEHIND"...)
	l := make([]api.File, len(w.D.F), len(w.D.F)+3)
	at := 0
	for i, f := range w.D.F {
		l[i] = api.File{No: f.No, Data: whole[at : at+len(f.Data)], Sure: f.Sure}
		at += len(f.Data)
	}
	all := l[:cap(l)]
	for i := len(l); i < len(all); i++ {
		all[i] = api.File{No: -5, Data: whole[at:], Sure: 2}
	}
	x := api.Wal{D: api.Disk{Cap: w.D.Cap, F: l}, No: w.No, Now: w.Now}
	was, filesWas := slices.Clone(whole), ownDisk(diskOf(0, all...))
	return x, func() bool { return bytes.Equal(whole, was) && isSameDisk(diskOf(0, all...), filesWas) }
}

// spoil changes all of a disk that can be changed, and writes into what room is behind its lists.
func spoil(d api.Disk) {
	l := d.F[:cap(d.F)]
	for i, f := range l {
		b := f.Data[:cap(f.Data)]
		for k := range b {
			b[k] ^= 255
		}
		l[i] = api.File{No: -7, Data: []byte("spoiled"), Sure: -7}
	}
}

// spoilState overwrites a state's lists, and the room behind them.
func spoilState(s api.State) {
	for i := range s.Pools[:cap(s.Pools)] {
		s.Pools[:cap(s.Pools)][i].From = -9
	}
	for i := range s.L[:cap(s.L)] {
		s.L[:cap(s.L)][i].Sub = -9
	}
	for i := range s.H[:cap(s.H)] {
		s.H[:cap(s.H)][i].Till = -9
	}
}

// calls are all calls that make a log, each of one.
func calls() []func(w api.Wal) api.Wal {
	first := func(w api.Wal, _ api.Errno) api.Wal { return w }
	return []func(w api.Wal) api.Wal{
		func(w api.Wal) api.Wal { return first(wal.New(w.D, some())) },
		func(w api.Wal) api.Wal { return first(wal.New(w.D, plain(-1))) },
		func(w api.Wal) api.Wal { return first(wal.Add(w, list(drain(w.Now, 0)))) },
		func(w api.Wal) api.Wal { return first(wal.Add(w, spread(w.Now, 0, 200))) },
		func(w api.Wal) api.Wal { return first(wal.Add(w, list(drain(w.Now-1, 0)))) },
		func(w api.Wal) api.Wal { return first(wal.Add(w, nil)) },
		func(w api.Wal) api.Wal { return first(wal.Turn(w, some())) },
		func(w api.Wal) api.Wal { return first(wal.Turn(w, plain(-1))) },
		func(w api.Wal) api.Wal { return wal.Trim(w, 0) },
		func(w api.Wal) api.Wal { return wal.Trim(w, 2500) },
		func(w api.Wal) api.Wal { return wal.Trim(w, math.MaxInt) },
	}
}

// handed are logs, may they be or not, short and long, with room and without.
func handed() []api.Wal {
	l := append(append(goods(), notLogs()...), big(1, 5), big(3, 9), big(12, 12), begun(0, 10, 20), begun(0, -1, 20))
	for _, w := range slices.Clone(l) {
		l = append(l, with(w, func(w *api.Wal) { w.D.Cap = 9000 }), with(w, func(w *api.Wal) { w.D.Cap = used(w.D.F) }))
	}
	return l
}

// What is handed in stays as it was, also behind its lists' ends, whatever is done to what came back; and the other way round. So it is of logs that may not be.
func TestR3OwnMemory(t *testing.T) {
	for i, x := range handed() {
		for k, call := range calls() {
			w, isAsItWas := roomyLog(x)
			got, other := call(w), call(w)
			want := own(got)
			if !isAsItWas() {
				t.Errorf("%d, call %d: changed what was handed in: %v", i, k, x)
			}
			spoil(other.D)
			if !isAsItWas() {
				t.Errorf("%d, call %d: an answer shares what was handed in: %v", i, k, x)
			}
			spoil(w.D)
			if !isSame(got, want) {
				t.Errorf("%d, call %d: what came back shares what was handed in, or another answer: %v", i, k, x)
			}
		}
	}
}

// No two files of an answer share memory, also where those handed in did.
func TestR3FilesApart(t *testing.T) {
	b := begins(plain(0))
	for _, room := range []int{9000, 102, -1} {
		for k, call := range calls() {
			got := call(logOf(room, 7, api.File{No: 1, Data: b}, api.File{No: 2, Data: b}, api.File{No: 4, Data: b}))
			for at := range got.D.F {
				want := own(got)
				data := got.D.F[at].Data[:cap(got.D.F[at].Data)]
				for i := range data {
					data[i]++
				}
				for i := range want.D.F[at].Data {
					want.D.F[at].Data[i]++
				}
				if !isSame(got, want) {
					t.Errorf("call %d, room %d: the file at %d shares memory with another one", k, room, at)
				}
			}
		}
	}
}

// States and events that are handed in stay, also behind their lists' ends.
func TestR3StatesAndEvents(t *testing.T) {
	for _, s := range append(states(), unput()...) {
		was := s
		was.Pools, was.L, was.H = slices.Clone(s.Pools), slices.Clone(s.L), slices.Clone(s.H)
		x, _ := wal.New(diskOf(9000), s)
		y, _ := wal.Turn(big(1, 5), s)
		spoil(x.D)
		spoil(y.D)
		if !isSameState(s, was) {
			t.Fatalf("%v became %v", was, s)
		}
	}
	all := append(lists(5007)[0], grant(-7, 0, 0, 0), grant(-8, 0, 0, 0))
	was := slices.Clone(all)
	for n := range len(all) {
		x, _ := wal.Add(story(), all[:n])
		spoil(x.D)
		if !slices.Equal(all, was) {
			t.Fatalf("Add of %d changed its list: %v", n, all)
		}
	}
}

// Bytes that are handed in stay, and a state that comes back is the caller's own.
func TestR3First(t *testing.T) {
	for _, s := range states() {
		b := append(begins(s), "BEHIND"...)
		was := slices.Clone(b)
		n := len(b) - 6
		for _, x := range [][]byte{b[:n], b, b[:n-1], b[:n-6]} {
			got, _, _ := wal.First(x)
			other, _, _ := wal.First(x)
			want := got
			want.Pools, want.L, want.H = slices.Clone(got.Pools), slices.Clone(got.L), slices.Clone(got.H)
			spoilState(other)
			if !bytes.Equal(b, was) {
				t.Fatalf("First changed its bytes: %v, %v", was, b)
			}
			for i := range b {
				b[i] ^= 255
			}
			if !isSameState(got, want) {
				t.Fatalf("First(%v): %v, not %v", was, got, want)
			}
			copy(b, was)
		}
	}
}

// Lists that are nil, and those that are empty, are the same.
func TestR6NilAndEmpty(t *testing.T) {
	a, b := diskOf(9000), api.Disk{Cap: 9000, F: []api.File{}}
	x, _ := wal.New(a, plain(3))
	y, _ := wal.New(b, api.State{D: plain(3).D, P: plain(3).P, Now: 3, Pools: []api.Pool{}, L: []api.Lease{}, H: []api.Held{}})
	if !wal.Same(x, y) || !isSame(x, y) {
		t.Errorf("%v, %v", x, y)
	}
	if !wal.Same(api.Wal{D: a}, api.Wal{D: b}) || !wal.Same(logOf(0, 0, api.File{No: 1}), logOf(0, 0, api.File{No: 1, Data: []byte{}})) {
		t.Error("nil and empty are not the same")
	}
	for _, l := range [][]api.File{{{No: 1}}, {{No: 1, Data: []byte{}}}} {
		wantAdd(t, logOf(9000, 0, l...), list(drain(0, 0)), api.OK)
		wantTurn(t, logOf(9000, 0, l...), plain(0), api.OK)
	}
}

// No call hangs on the ones ahead.
func TestR5NothingIsKept(t *testing.T) {
	for range 3 {
		for _, w := range handed() {
			for k, call := range calls() {
				if a, b := call(w), call(own(w)); !isSame(a, b) {
					t.Fatalf("call %d of %v: %v, then %v", k, w, a, b)
				}
			}
		}
		wantNew(t, diskOf(9000), plain(0))
		wantFirst(t, begins(plain(0)), true)
		wantFirst(t, nil, false)
	}
}

// far are the numbers whose sums and differences deceive, and those around the edges.
func far() []int {
	return []int{math.MinInt, math.MinInt + 1, math.MinInt + 1000, math.MinInt + top, -1 << 62, -1 << 32, -top, -1000, -1, 0, 1, 12, 1000, 65536, top - 1, top, top + 1, 1 << 32, 1 << 59, 1 << 62, math.MaxInt - top, math.MaxInt - 1000, math.MaxInt - 1, math.MaxInt}
}

// Whatever numbers stand in a log, no call panics, and each answers as by the other way.
func TestP1NumbersOfLogs(t *testing.T) {
	for _, x := range []api.Wal{story(), big(1, 5), begun(0, 10, 20), logOf(0, 0, numbered(1)...)} {
		w := own(x)
		places := []*int{&w.No, &w.Now, &w.D.Cap}
		for i := range w.D.F {
			places = append(places, &w.D.F[i].No, &w.D.F[i].Sure)
		}
		for i, p := range places {
			for k, q := range places {
				wasP, wasQ := *p, *q
				for _, n := range far() {
					for _, m := range []int{n, -n, math.MinInt, math.MaxInt} {
						if *p, *q = n, m; i == k && m != n {
							continue
						}
						if wal.May(w) != (len(whyNot(w)) == 0) {
							t.Fatalf("May(%v)", w)
						}
						_, addE := otherAdd(w, list(drain(w.Now, 0)))
						wantAdd(t, w, list(drain(w.Now, 0)), addE)
						_, turnE := otherTurn(w, some())
						wantTurn(t, w, some(), turnE)
						wantNew(t, w.D, some())
						if got := wal.Trim(w, n); !isSame(got, otherTrim(w, n)) {
							t.Fatalf("Trim(%v, %d): %v", w, n, got)
						}
					}
				}
				*p, *q = wasP, wasQ
			}
		}
	}
}

// So it is of those of a state, and of an event.
func TestP1NumbersOfStatesAndEvents(t *testing.T) {
	s := some()
	l := []*int{&s.D.In.Base, &s.D.In.Bits, &s.D.Out.Base, &s.D.Out.Bits, &s.D.Lo, &s.D.Hi, &s.D.Dyn, &s.D.Block, &s.P.Quota, &s.P.Idle, &s.P.Hold, &s.Now}
	for i := range s.Pools {
		l = append(l, &s.Pools[i].From, &s.Pools[i].N, &s.Pools[i].St)
	}
	for i := range s.L {
		l = append(l, &s.L[i].Sub, &s.L[i].Addr, &s.L[i].Blk, &s.L[i].From, &s.L[i].Last)
	}
	for i := range s.H {
		l = append(l, &s.H[i].Addr, &s.H[i].Blk, &s.H[i].Till)
	}
	for _, p := range l {
		was := *p
		for _, n := range far() {
			*p = n
			wantNew(t, diskOf(9000), s)
			_, e := otherTurn(big(1, 5), s)
			wantTurn(t, big(1, 5), s, e)
		}
		*p = was
	}
	e := grant(5007, 1, 0, 2)
	for _, p := range []*int{&e.Kind, &e.At, &e.A, &e.B, &e.C, &e.P.Quota, &e.P.Idle, &e.P.Hold} {
		was := *p
		for _, n := range far() {
			*p = n
			for _, l := range [][]api.Event{list(e), list(e, e), list(drain(5007, 0), e), list(e, drain(top, 0))} {
				for _, now := range []int{0, 5007, top} {
					w := with(story(), func(w *api.Wal) { w.Now = now })
					_, wantE := otherAdd(w, l)
					wantAdd(t, w, l, wantE)
				}
			}
		}
		*p = was
	}
}

// Of bytes at random First tells as by the other way, and ends.
func TestP1AnyBytes(t *testing.T) {
	chance := rand.New(rand.NewSource(8))
	for range 20000 {
		b := make([]byte, chance.Intn(60))
		for i := range b {
			b[i] = []byte{0, 1, 2, 20, 127, 128, 255, byte(chance.Intn(256))}[chance.Intn(8)]
		}
		if chance.Intn(2) == 0 {
			b = record(chance.Intn(3), b)
		}
		_, _, is := otherFirst(b)
		wantFirst(t, b, is)
	}
}

// small is a state of one address, and two blocks.
func small() api.State {
	d := api.Det{In: api.Prefix{Base: 10 << 24, Bits: 31}, Out: api.Prefix{Base: 11 << 24, Bits: 32}, Lo: 1000, Hi: 1099, Dyn: 20, Block: 10}
	return api.State{D: d, P: api.Policy{Quota: 1, Idle: 9, Hold: 5}}
}

// Known bytes, made by a program of its own, by the document's words.
func TestKnown(t *testing.T) {
	zero := []byte{1, 28, 23, 128, 128, 128, 80, 31, 128, 128, 128, 88, 32, 232, 7, 203, 8, 20, 10, 1, 9, 5, 0, 0, 0, 0, 0, 0, 0, 0, 252, 84, 73, 193}
	granted := []byte{2, 4, 2, 1, 64, 0, 47, 165, 50, 236}
	freed := []byte{2, 2, 49, 0, 101, 187, 63, 186}
	seven := []byte{1, 33, 26, 128, 128, 128, 80, 31, 128, 128, 128, 88, 32, 232, 7, 203, 8, 20, 10, 1, 9, 5, 0, 7, 0, 1, 0, 1, 0, 0, 0, 1, 0, 1, 24, 35, 196, 18, 3}
	want := func(w api.Wal, e api.Errno, want api.Wal) {
		t.Helper()
		if e != api.OK || !isSame(w, want) {
			t.Fatalf("%v, %d, not %v", w, e, want)
		}
	}
	w, e := wal.New(diskOf(9000), small())
	want(w, e, logOf(9000, 0, file(1, zero)))
	w, e = wal.Add(w, list(add(0, 0, 1), grant(4, 0, 0, 0)))
	want(w, e, logOf(9000, 4, file(1, zero, granted)))
	w, e = wal.Add(w, list(free(7, 0, 0, 0)))
	want(w, e, logOf(9000, 7, file(1, zero, granted, freed)))
	s := small()
	s.Now, s.Pools, s.H = 7, []api.Pool{{N: 1}}, []api.Held{{Till: 12}}
	if got, end, is := wal.First(slices.Concat(seven, freed)); !is || end != 39 || !isSameState(got, s) {
		t.Errorf("First(%v): %v, %d, %t", seven, got, end, is)
	}
	short := w
	w, e = wal.Turn(w, s)
	want(w, e, short)
	w, e = wal.New(w.D, s)
	want(w, e, logOf(9000, 7, file(1, zero, granted, freed), file(2, seven)))
	want(wal.Trim(w, 1006), api.OK, w)
	want(wal.Trim(w, 1007), api.OK, logOf(9000, 7, file(2, seven)))
}

// The document's example: a new log of an empty disk has one file, 1, all of which is sure.
func TestExample(t *testing.T) {
	for _, s := range states() {
		for _, room := range []int{600, 9000, 65536} {
			d, _ := disk.New(room)
			w, e := wal.New(d, s)
			if e != api.OK || w.No != 1 || len(w.D.F) != 1 || w.D.F[0].No != 1 || len(w.D.F[0].Data) == 0 || w.D.F[0].Sure != len(w.D.F[0].Data) {
				t.Fatalf("New(%v, %v): %v, %d", d, s, w, e)
			}
		}
	}
}
