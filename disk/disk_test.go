package disk_test

import (
	"bytes"
	"maps"
	"math"
	"math/rand"
	"slices"
	"testing"

	"moorings/api"
	"moorings/disk"
)

// top is the greatest number of a file.
const top = 1 << 30

func file(no, sure int, text string) api.File {
	return api.File{No: no, Data: []byte(text), Sure: sure}
}

func diskOf(room int, l ...api.File) api.Disk {
	return api.Disk{Cap: room, F: l}
}

// empties are empty files of some numbers.
func empties(l ...int) []api.File {
	var files []api.File
	for _, no := range l {
		files = append(files, api.File{No: no})
	}
	return files
}

// upTo are the numbers from 1 to n.
func upTo(n int) []int {
	var l []int
	for i := range n {
		l = append(l, i+1)
	}
	return l
}

// three is a disk of three files, with 10 bytes of room left.
func three() api.Disk {
	return diskOf(24, file(2, 2, "abcde"), file(5, 0, ""), file(9, 9, "mooringsx"))
}

// copyOf is a disk of the same parts, in memory of its own.
func copyOf(d api.Disk) api.Disk {
	l := make([]api.File, len(d.F))
	for i, f := range d.F {
		l[i] = api.File{No: f.No, Data: append([]byte{}, f.Data...), Sure: f.Sure}
	}
	return api.Disk{Cap: d.Cap, F: l}
}

// same tells whether two disks are the same, by another way.
func same(a, b api.Disk) bool {
	if a.Cap != b.Cap || len(a.F) != len(b.F) {
		return false
	}
	for i := range a.F {
		if a.F[i].No != b.F[i].No || a.F[i].Sure != b.F[i].Sure || string(a.F[i].Data) != string(b.F[i].Data) {
			return false
		}
	}
	return true
}

// bads are disks that may not be, each for one reason.
func bads() []api.Disk {
	text := func(n int) string { return string(make([]byte, n)) }
	return []api.Disk{
		{Cap: -1},
		{Cap: math.MinInt},
		{Cap: 65537},
		{Cap: math.MaxInt},
		{Cap: 65537, F: []api.File{file(2, 1, "abc")}},
		{Cap: -1, F: []api.File{{No: 2}}},
		{Cap: 9, F: empties(upTo(13)...)},
		{Cap: 9, F: empties(upTo(5000)...)},
		{Cap: 9, F: empties(0)},
		{Cap: 9, F: empties(-1)},
		{Cap: 9, F: empties(-1, 2)},
		{Cap: 9, F: empties(0, 1, 2)},
		{Cap: 9, F: empties(math.MinInt, 2)},
		{Cap: 9, F: empties(top + 1)},
		{Cap: 9, F: empties(2, top, top+1)},
		{Cap: 9, F: empties(2, math.MaxInt)},
		{Cap: 9, F: empties(2, 2)},
		{Cap: 9, F: empties(1, 2, 2, 3)},
		{Cap: 9, F: empties(top, top)},
		{Cap: 9, F: empties(3, 2)},
		{Cap: 9, F: empties(1, 2, 4, 3)},
		{Cap: 9, F: empties(2, 1, 3, 4)},
		{Cap: 9, F: []api.File{file(2, -1, "abc")}},
		{Cap: 9, F: []api.File{file(2, -1, "")}},
		{Cap: 9, F: []api.File{file(2, math.MinInt, "abc")}},
		{Cap: 9, F: []api.File{file(2, 4, "abc")}},
		{Cap: 9, F: []api.File{file(2, 1, "")}},
		{Cap: 9, F: []api.File{file(2, math.MaxInt, "abc")}},
		{Cap: 9, F: []api.File{file(1, 0, "abc"), file(2, 2, "x"), file(3, 0, "abc")}},
		{Cap: 9, F: []api.File{file(1, 0, "abc"), file(2, 0, "x"), file(3, 4, "abc")}},
		{Cap: 0, F: []api.File{file(2, 0, "x")}},
		{Cap: 2, F: []api.File{file(2, 0, "abc")}},
		{Cap: 8, F: []api.File{file(1, 3, "abc"), file(2, 3, "abc"), file(3, 3, "abc")}},
		{Cap: 65536, F: []api.File{file(2, 0, text(65537))}},
		{Cap: 65536, F: []api.File{file(2, 0, text(65536)), file(3, 0, "x")}},
		{Cap: 65536, F: []api.File{file(2, 0, "x"), file(3, 0, text(65536))}},
	}
}

// goods are disks that may be, most of them at an edge.
func goods() []api.Disk {
	text := func(n int) string { return string(make([]byte, n)) }
	return []api.Disk{
		{},
		{F: []api.File{}},
		{Cap: 1},
		{Cap: 65536},
		{Cap: 0, F: empties(1, 2)},
		{Cap: 9, F: empties(1)},
		{Cap: 9, F: empties(top)},
		{Cap: 9, F: empties(1, top)},
		{Cap: 9, F: empties(top-1, top)},
		{Cap: 9, F: empties(upTo(12)...)},
		{Cap: 9, F: []api.File{file(2, 0, "abc")}},
		{Cap: 9, F: []api.File{file(2, 3, "abc")}},
		{Cap: 3, F: []api.File{file(2, 1, "abc")}},
		{Cap: 9, F: []api.File{file(1, 0, "abc"), file(2, 3, "abc"), file(3, 2, "abc")}},
		{Cap: 65536, F: []api.File{file(2, 65536, text(65536))}},
		{Cap: 65536, F: []api.File{file(2, 7, text(30000)), file(3, 0, text(35536))}},
		three(),
	}
}

func wantDisk(t *testing.T, got, want api.Disk) {
	t.Helper()
	if !same(got, want) {
		t.Errorf("%v, not %v", got, want)
	}
}

// wanted makes a test of what a call answers: its error, and its disk.
func wanted(t *testing.T) func(want api.Disk, wantE api.Errno) func(got api.Disk, e api.Errno) {
	return func(want api.Disk, wantE api.Errno) func(got api.Disk, e api.Errno) {
		return func(got api.Disk, e api.Errno) {
			t.Helper()
			if e != wantE || !same(got, want) {
				t.Errorf("%v, %d, not %v, %d", got, e, want, wantE)
			}
		}
	}
}

func TestP6_1New(t *testing.T) {
	for _, room := range []int{0, 1, 2, 20, 300, 65535, 65536} {
		d, is := disk.New(room)
		if !is || !same(d, api.Disk{Cap: room}) || !disk.May(d) || disk.Used(d) != 0 {
			t.Errorf("New(%d): %v, %t", room, d, is)
		}
	}
	for _, room := range []int{-1, -2, -65536, math.MinInt, 65537, 65538, 1 << 17, 1 << 32, 1<<32 + 5, math.MaxInt} {
		if d, is := disk.New(room); is || !same(d, api.Disk{}) {
			t.Errorf("New(%d): %v, %t", room, d, is)
		}
	}
}

func TestP6_1May(t *testing.T) {
	for _, d := range goods() {
		if !disk.May(d) {
			t.Errorf("may not be: %v", d)
		}
	}
	for i, d := range bads() {
		if disk.May(d) {
			t.Errorf("%d: may be", i)
		}
	}
}

// Of files of all numbers around the edges, and of all Sures, just those may be that the chapter says.
func TestP6_1MayAll(t *testing.T) {
	numbers := []int{-1, 0, 1, 2, 3, top - 1, top, top + 1}
	for _, first := range numbers {
		for _, second := range numbers {
			for _, third := range numbers {
				want := 1 <= first && first < second && second < third && third <= top
				if d := diskOf(9, empties(first, second, third)...); disk.May(d) != want {
					t.Errorf("%v: not %t", d, want)
				}
			}
		}
	}
	for size := range 5 {
		for sure := -2; sure < 8; sure++ {
			for room := -1; room < 9; room++ {
				want := room >= 3+size && 0 <= sure && sure <= size
				d := diskOf(room, file(1, 0, "ab"), file(3, sure, "wxyz"[:size]), file(4, 1, "c"))
				if disk.May(d) != want {
					t.Errorf("%v: not %t", d, want)
				}
			}
		}
	}
}

func TestP6_1Same(t *testing.T) {
	all := append(goods(), bads()...)
	for _, d := range append(all, api.Disk{Cap: 7}) {
		if !disk.Same(d, d) || !disk.Same(d, copyOf(d)) || !disk.Same(copyOf(d), d) {
			t.Errorf("not the same as itself: %v", d)
		}
	}
	for i, a := range all {
		for j, b := range all {
			if disk.Same(a, b) != same(a, b) {
				t.Errorf("%d and %d: not %t", i, j, same(a, b))
			}
		}
	}
}

// One part another one, and they aren't the same.
func TestP6_1SameOtherPart(t *testing.T) {
	d := three()
	for i, change := range []func(x *api.Disk){
		func(x *api.Disk) { x.Cap = 25 },
		func(x *api.Disk) { x.Cap = 23 },
		func(x *api.Disk) { x.Cap = -24 },
		func(x *api.Disk) { x.F = nil },
		func(x *api.Disk) { x.F = x.F[:2] },
		func(x *api.Disk) { x.F = x.F[1:] },
		func(x *api.Disk) { x.F = append(x.F, api.File{No: 10}) },
		func(x *api.Disk) { x.F = append(x.F, api.File{}) },
		func(x *api.Disk) { x.F[0].No = 1 },
		func(x *api.Disk) { x.F[2].No = 10 },
		func(x *api.Disk) { x.F[1].No = -5 },
		func(x *api.Disk) { x.F[0].Sure = 3 },
		func(x *api.Disk) { x.F[0].Sure = 0 },
		func(x *api.Disk) { x.F[2].Sure = 8 },
		func(x *api.Disk) { x.F[1].Sure = 1 },
		func(x *api.Disk) { x.F[0].Data[0] = 'b' },
		func(x *api.Disk) { x.F[0].Data[4] = 'b' },
		func(x *api.Disk) { x.F[2].Data[8] = 0 },
		func(x *api.Disk) { x.F[0].Data = x.F[0].Data[:4] },
		func(x *api.Disk) { x.F[0].Data = append(x.F[0].Data, 0) },
		func(x *api.Disk) { x.F[1].Data = []byte{0} },
		func(x *api.Disk) { x.F[0], x.F[1] = x.F[1], x.F[0] },
		func(x *api.Disk) { x.F[0].Data, x.F[2].Data = x.F[2].Data, x.F[0].Data },
	} {
		other := copyOf(d)
		change(&other)
		if disk.Same(d, other) || disk.Same(other, d) {
			t.Errorf("%d: the same as %v", i, other)
		}
		if !disk.Same(other, copyOf(other)) {
			t.Errorf("%d: not the same as itself", i)
		}
	}
}

// Bytes that are nil and none, and files, are the same.
func TestP6_1SameNilAndEmpty(t *testing.T) {
	for _, x := range [][2]api.Disk{
		{{}, {F: []api.File{}}},
		{{Cap: 9}, {Cap: 9, F: make([]api.File, 0, 5)}},
		{diskOf(9, api.File{No: 3}), diskOf(9, api.File{No: 3, Data: []byte{}})},
		{diskOf(9, api.File{No: 3}), diskOf(9, api.File{No: 3, Data: make([]byte, 0, 9)})},
		{diskOf(9, file(1, 0, "x"), api.File{No: 3}), diskOf(9, file(1, 0, "x"), file(3, 0, ""))},
		{diskOf(-9, api.File{No: -3, Sure: 5}), diskOf(-9, api.File{No: -3, Sure: 5, Data: []byte{}})},
	} {
		if !disk.Same(x[0], x[1]) || !disk.Same(x[1], x[0]) {
			t.Errorf("%v and %v: not the same", x[0], x[1])
		}
	}
}

// On disks of all numbers of files each file is found at its place, and no other number is.
func TestP6_1Find(t *testing.T) {
	for count := range 13 {
		var l []int
		for i := range count {
			l = append(l, 3*i+2)
		}
		d := diskOf(9, empties(l...)...)
		for no := -3; no < 45; no++ {
			if at := disk.Find(d, no); at != slices.Index(l, no) {
				t.Errorf("Find(%v, %d): %d", l, no, at)
			}
		}
		for _, no := range []int{math.MinInt, -1, 0, top, top + 1, 1<<32 + 2, math.MaxInt} {
			if at := disk.Find(d, no); at != -1 {
				t.Errorf("Find(%v, %d): %d", l, no, at)
			}
		}
	}
	d := diskOf(9, empties(1, 2, 500, top-1, top)...)
	for no, want := range map[int]int{0: -1, 1: 0, 2: 1, 3: -1, 499: -1, 500: 2, 501: -1, top - 2: -1, top - 1: 3, top: 4, top + 1: -1} {
		if at := disk.Find(d, no); at != want {
			t.Errorf("Find %d: %d, not %d", no, at, want)
		}
	}
}

func TestP6_1FindUsedOfBad(t *testing.T) {
	for i, d := range bads() {
		for _, no := range []int{-1, 0, 1, 2, 3, 4, 12, top, top + 1, math.MinInt, math.MaxInt} {
			if at := disk.Find(d, no); at != -1 {
				t.Errorf("%d: Find %d: %d", i, no, at)
			}
		}
		if used := disk.Used(d); used != 0 {
			t.Errorf("%d: Used: %d", i, used)
		}
	}
}

func TestP6_1Used(t *testing.T) {
	for _, d := range goods() {
		want := 0
		for _, f := range d.F {
			want += len(f.Data)
		}
		if used := disk.Used(d); used != want {
			t.Errorf("Used: %d, not %d", used, want)
		}
	}
	if used := disk.Used(three()); used != 14 {
		t.Errorf("Used: %d, not 14", used)
	}
}

func TestP6_2Make(t *testing.T) {
	want := wanted(t)
	d := three()
	made := func(no, at int) api.Disk {
		x := copyOf(d)
		x.F = slices.Insert(x.F, at, api.File{No: no})
		return x
	}
	for no, at := range map[int]int{1: 0, 3: 1, 4: 1, 6: 2, 8: 2, 10: 3, 11: 3, top - 1: 3, top: 3} {
		want(made(no, at), api.OK)(disk.Make(d, no))
	}
	for _, no := range []int{2, 5, 9} {
		want(d, api.ErrThere)(disk.Make(d, no))
	}
	for _, no := range []int{0, -1, -2, math.MinInt, top + 1, top + 2, 1 << 31, 1<<32 + 2, math.MaxInt} {
		want(d, api.ErrArg)(disk.Make(d, no))
	}
	for _, no := range []int{1, 7, top} {
		want(diskOf(0, api.File{No: no}), api.OK)(disk.Make(api.Disk{}, no))
		want(diskOf(65536, api.File{No: no}), api.OK)(disk.Make(diskOf(65536), no))
	}
}

// The twelfth file is made wherever it stands, and no thirteenth one.
func TestP6_2MakeFull(t *testing.T) {
	want := wanted(t)
	all := empties(upTo(12)...)
	for i := range all {
		eleven := diskOf(9, slices.Delete(slices.Clone(all), i, i+1)...)
		want(diskOf(9, all...), api.OK)(disk.Make(eleven, i+1))
	}
	full := diskOf(3, empties(2, 4, 6, 8, 10, 12, 14, 16, 18, 20, 22, 24)...)
	for no := range 30 {
		switch {
		case no == 0:
			want(full, api.ErrArg)(disk.Make(full, no))
		case no%2 == 0 && no <= 24:
			want(full, api.ErrThere)(disk.Make(full, no))
		default:
			want(full, api.ErrFull)(disk.Make(full, no))
		}
	}
	want(full, api.ErrFull)(disk.Make(full, top))
	want(full, api.ErrArg)(disk.Make(full, top+1))
	want(full, api.ErrArg)(disk.Make(full, -2))
}

func TestP6_2Write(t *testing.T) {
	want := wanted(t)
	d := three()
	wrote := func(at int, text string) api.Disk {
		x := copyOf(d)
		x.F[at].Data = append(x.F[at].Data, text...)
		return x
	}
	for at, no := range []int{2, 5, 9} {
		for size := range 11 {
			want(wrote(at, "0123456789"[:size]), api.OK)(disk.Write(d, no, []byte("0123456789")[:size]))
		}
		want(d, api.OK)(disk.Write(d, no, nil))
		for _, size := range []int{11, 12, 24, 1000, 65536, 70000} {
			want(d, api.ErrFull)(disk.Write(d, no, make([]byte, size)))
		}
	}
	for _, no := range []int{1, 3, 10, 0, -1, top, top + 1, math.MinInt, math.MaxInt} {
		want(d, api.ErrNone)(disk.Write(d, no, nil))
		want(d, api.ErrNone)(disk.Write(d, no, []byte("x")))
		want(d, api.ErrNone)(disk.Write(d, no, make([]byte, 11)))
	}
	want(api.Disk{}, api.ErrNone)(disk.Write(api.Disk{}, 1, nil))
	want(api.Disk{}, api.ErrNone)(disk.Write(api.Disk{}, 1, []byte("x")))
}

// Just Cap is not too much: of no room at all, of all that there may be, and of what other files leave.
func TestP6_2WriteRoom(t *testing.T) {
	want := wanted(t)
	for _, room := range []int{0, 1, 5, 300, 65535, 65536} {
		for _, other := range []int{0, 1, 4, 250, 65536} {
			if other > room {
				continue
			}
			d := diskOf(room, api.File{No: 1}, api.File{No: 3, Data: make([]byte, other)})
			whole := copyOf(d)
			whole.F[0].Data = make([]byte, room-other)
			want(whole, api.OK)(disk.Write(d, 1, make([]byte, room-other)))
			want(d, api.ErrFull)(disk.Write(d, 1, make([]byte, room-other+1)))
			want(whole, api.OK)(disk.Write(whole, 3, nil))
			want(whole, api.ErrFull)(disk.Write(whole, 1, []byte{0}))
			want(whole, api.ErrFull)(disk.Write(whole, 3, []byte{0}))
		}
	}
}

func TestP6_2Sync(t *testing.T) {
	want := wanted(t)
	d := diskOf(30, file(2, 2, "abcde"), file(5, 0, ""), file(9, 0, "moorings"), file(11, 3, "xyz"))
	for at, no := range []int{2, 5, 9, 11} {
		x := copyOf(d)
		x.F[at].Sure = len(x.F[at].Data)
		want(x, api.OK)(disk.Sync(d, no))
		want(x, api.OK)(disk.Sync(x, no))
	}
	for _, no := range []int{1, 3, 10, 12, 0, -1, top, top + 1, math.MinInt, math.MaxInt} {
		want(d, api.ErrNone)(disk.Sync(d, no))
	}
	want(api.Disk{}, api.ErrNone)(disk.Sync(api.Disk{}, 1))
}

func TestP6_2Cut(t *testing.T) {
	want := wanted(t)
	d := diskOf(30, file(2, 2, "abcde"), file(5, 0, ""), file(9, 0, "moorings"), file(11, 3, "xyz"))
	for at, no := range []int{2, 5, 9, 11} {
		for n := range len(d.F[at].Data) + 1 {
			x := copyOf(d)
			x.F[at].Data = x.F[at].Data[:n]
			x.F[at].Sure = n
			want(x, api.OK)(disk.Cut(d, no, n))
		}
		size := len(d.F[at].Data)
		for _, n := range []int{-1, -2, math.MinInt, size + 1, size + 2, 30, 1<<32 + 1, math.MaxInt} {
			want(d, api.ErrArg)(disk.Cut(d, no, n))
		}
	}
	for _, no := range []int{1, 3, 10, 12, 0, -1, top, top + 1, math.MinInt, math.MaxInt} {
		for _, n := range []int{0, 1, -1, 99, math.MinInt, math.MaxInt} {
			want(d, api.ErrNone)(disk.Cut(d, no, n))
		}
	}
}

// What was cut off is room again, and doesn't come back with what is written behind.
func TestP6_2CutGivesRoom(t *testing.T) {
	want := wanted(t)
	d := diskOf(8, file(2, 5, "abcde"), file(4, 0, "xyz"))
	cut, _ := disk.Cut(d, 2, 2)
	want(diskOf(8, file(2, 2, "ab123"), file(4, 0, "xyz")), api.OK)(disk.Write(cut, 2, []byte("123")))
	want(diskOf(8, file(2, 2, "ab"), file(4, 0, "xyz123")), api.OK)(disk.Write(cut, 4, []byte("123")))
	want(cut, api.ErrFull)(disk.Write(cut, 4, []byte("1234")))
	want(cut, api.ErrArg)(disk.Cut(cut, 2, 3))
}

func TestP6_2Drop(t *testing.T) {
	want := wanted(t)
	d := three()
	for at, no := range []int{2, 5, 9} {
		x := copyOf(d)
		x.F = slices.Delete(x.F, at, at+1)
		want(x, api.OK)(disk.Drop(d, no))
		want(x, api.ErrNone)(disk.Drop(x, no))
	}
	for _, no := range []int{1, 3, 10, 0, -1, top, top + 1, math.MinInt, math.MaxInt} {
		want(d, api.ErrNone)(disk.Drop(d, no))
	}
	full := diskOf(9, empties(upTo(12)...)...)
	for i := range 12 {
		want(diskOf(9, slices.Delete(empties(upTo(12)...), i, i+1)...), api.OK)(disk.Drop(full, i+1))
	}
	want(diskOf(3), api.OK)(disk.Drop(diskOf(3, file(top, 0, "abc")), top))
	want(api.Disk{}, api.ErrNone)(disk.Drop(api.Disk{}, 1))
}

// A disk that may not be is told ahead of all else, and comes back as it was.
func TestP6_2Bad(t *testing.T) {
	want := wanted(t)
	for _, d := range bads() {
		for _, no := range []int{-1, 0, 1, 2, 3, 7, 12, 13, top, top + 1, math.MinInt, math.MaxInt} {
			want(d, api.ErrArg)(disk.Make(d, no))
			want(d, api.ErrArg)(disk.Sync(d, no))
			want(d, api.ErrArg)(disk.Drop(d, no))
			for _, size := range []int{0, 1, 9, 10, 65537} {
				want(d, api.ErrArg)(disk.Write(d, no, make([]byte, size)))
			}
			for _, n := range []int{-1, 0, 1, 3, 4, math.MinInt, math.MaxInt} {
				want(d, api.ErrArg)(disk.Cut(d, no, n))
			}
		}
	}
}

// torn are bytes as a crash leaves them.
func torn(text string) string {
	b := []byte(text)
	for i := range b {
		b[i] ^= 165
	}
	return string(b)
}

// The example of the chapter: of three bytes one is sure.
func TestP6_3Example(t *testing.T) {
	d := diskOf(3, file(7, 1, "abc"))
	wantDisk(t, disk.Crash(d, []int{1, 0}), diskOf(3, file(7, 2, "ab")))
	wantDisk(t, disk.Crash(d, []int{1, 1}), diskOf(3, file(7, 2, "a"+torn("b"))))
	wantDisk(t, disk.Crash(diskOf(3, file(7, 1, "ab\x00")), []int{2, 1}), diskOf(3, file(7, 3, "a\xc7\xa5")))
}

// One file, with 2 bytes that are sure and 20 that are not.
func TestP6_3OneFile(t *testing.T) {
	const loose = "0123456789abcdefghij"
	d := diskOf(99, file(4, 2, "XY"+loose))
	left := func(kept string) api.Disk { return diskOf(99, file(4, 2+len(kept), "XY"+kept)) }
	for _, x := range []struct {
		picks []int
		kept  string
	}{
		{nil, ""},
		{[]int{}, ""},
		{[]int{0}, ""},
		{[]int{0, 1}, ""},
		{[]int{-1, 1}, ""},
		{[]int{-1}, ""},
		{[]int{math.MinInt, 1}, ""},
		{[]int{1}, "0"},
		{[]int{3}, "012"},
		{[]int{3, 0}, "012"},
		{[]int{3, 1}, torn("012")},
		{[]int{7, 1}, torn("0123456")},
		{[]int{8, 1}, torn("01234567")},
		{[]int{9, 1}, "0" + torn("12345678")},
		{[]int{10, 1}, "01" + torn("23456789")},
		{[]int{16, 1}, "01234567" + torn("89abcdef")},
		{[]int{19, 1}, "0123456789a" + torn("bcdefghi")},
		{[]int{20, 1}, "0123456789ab" + torn("cdefghij")},
		{[]int{20}, loose},
		{[]int{21}, loose},
		{[]int{22, 0}, loose},
		{[]int{21, 1}, "0123456789ab" + torn("cdefghij")},
		{[]int{math.MaxInt, 1}, "0123456789ab" + torn("cdefghij")},
		{[]int{math.MaxInt, 2}, loose},
		{[]int{5, 2}, "01234"},
		{[]int{5, 3}, torn("01234")},
		{[]int{5, -1}, torn("01234")},
		{[]int{5, -2}, "01234"},
		{[]int{5, -3}, torn("01234")},
		{[]int{5, math.MaxInt}, torn("01234")},
		{[]int{5, math.MinInt}, "01234"},
		{[]int{5, math.MinInt + 1}, torn("01234")},
		{[]int{5, 0, 1, 1, 1, 1}, "01234"},
		{[]int{5, 1, 0, 0, 9}, torn("01234")},
		{append([]int{5, 0}, make([]int, 1000)...), "01234"},
	} {
		wantDisk(t, disk.Crash(d, x.picks), left(x.kept))
	}
}

// Files that are sure take no numbers, and stay; the others take two each, in order.
func TestP6_3SeveralFiles(t *testing.T) {
	d := diskOf(99, file(1, 3, "abc"), file(2, 0, "defg"), file(3, 0, ""), file(4, 2, "hijkl"), file(6, 1, "m"), file(7, 0, "nopqrstuvw"))
	left := func(second, fourth, sixth string) api.Disk {
		return diskOf(99, file(1, 3, "abc"), file(2, len(second), second), file(3, 0, ""), file(4, len(fourth), fourth), file(6, 1, "m"), file(7, len(sixth), sixth))
	}
	for _, x := range []struct {
		picks []int
		want  api.Disk
	}{
		{nil, left("", "hi", "")},
		{[]int{2}, left("de", "hi", "")},
		{[]int{2, 1}, left(torn("de"), "hi", "")},
		{[]int{2, 1, 1}, left(torn("de"), "hij", "")},
		{[]int{0, 1, 1, 1}, left("", "hi"+torn("j"), "")},
		{[]int{9, 0, -1, 1, 9}, left("defg", "hi", "nopqrstuv")},
		{[]int{1, 0, 2, 1, 3, 0}, left("d", "hi"+torn("jk"), "nop")},
		{[]int{-1, -1, -1, -1, 10, -1}, left("", "hi", "no"+torn("pqrstuvw"))},
		{[]int{9, 1, 9, 1, 9, 1, 9, 1}, left(torn("defg"), "hi"+torn("jkl"), "n"+torn("opqrstuv"))},
	} {
		wantDisk(t, disk.Crash(d, x.picks), x.want)
	}
}

// Where all is sure, or nothing is there, nothing is lost and nothing torn.
func TestP6_3AllSure(t *testing.T) {
	for _, d := range []api.Disk{{}, {Cap: 5}, diskOf(9, empties(1, 2, 3)...), diskOf(9, file(1, 3, "abc"), file(2, 2, "de")), diskOf(65536, file(top, 65536, string(make([]byte, 65536))))} {
		for _, picks := range [][]int{nil, {0}, {0, 1}, {5, 1, 5, 1}, {-1, -1}} {
			wantDisk(t, disk.Crash(d, picks), d)
		}
	}
}

func TestP6_3Bad(t *testing.T) {
	for _, d := range bads() {
		for _, picks := range [][]int{nil, {}, {0, 0}, {1, 1}, {2, 1, 2, 1, 2, 1, 2, 1}, {-1, -1}, {math.MaxInt, math.MaxInt}} {
			wantDisk(t, disk.Crash(d, picks), d)
		}
	}
}

// crashed is what a crash must leave, by another way: byte by byte.
func crashed(d api.Disk, picks []int) api.Disk {
	x := diskOf(d.Cap)
	used := 0
	for _, f := range d.F {
		keep, tear := 0, false
		if f.Sure < len(f.Data) {
			if used < len(picks) {
				keep = picks[used]
			}
			if used+1 < len(picks) {
				tear = picks[used+1]&1 == 1
			}
			used += 2
		}
		var b []byte
		for i, c := range f.Data {
			if i < f.Sure || i-f.Sure < keep {
				b = append(b, c)
			}
		}
		for i := range b {
			if tear && i >= f.Sure && i+8 >= len(b) {
				b[i] ^= 165
			}
		}
		x.F = append(x.F, api.File{No: f.No, Data: b, Sure: len(b)})
	}
	return x
}

// chanceDisk is a disk of at most so many files, of at most so many bytes each.
func chanceDisk(chance *rand.Rand, files, size int) api.Disk {
	d := api.Disk{}
	no := 0
	for range chance.Intn(files + 1) {
		no += 1 + chance.Intn(9)
		b := make([]byte, chance.Intn(size+1))
		chance.Read(b)
		sure := []int{0, len(b), chance.Intn(len(b) + 1)}[chance.Intn(3)]
		d.F = append(d.F, api.File{No: no, Data: b, Sure: sure})
		d.Cap += len(b)
	}
	d.Cap += chance.Intn(50)
	return d
}

// chancePicks are some numbers, many of them around what may be kept.
func chancePicks(chance *rand.Rand, files int) []int {
	picks := make([]int, chance.Intn(2*files+3))
	for i := range picks {
		picks[i] = chance.Intn(30) - 6
		if chance.Intn(20) == 0 {
			picks[i] = []int{math.MinInt, math.MinInt + 1, math.MaxInt - 1, math.MaxInt}[chance.Intn(4)]
		}
	}
	return picks
}

func TestP6_3Any(t *testing.T) {
	chance := rand.New(rand.NewSource(1))
	for range 20000 {
		d := chanceDisk(chance, 12, 24)
		picks := chancePicks(chance, 12)
		if got, want := disk.Crash(d, picks), crashed(d, picks); !same(got, want) {
			t.Fatalf("Crash(%v, %v): %v, not %v", d, picks, got, want)
		}
	}
}

// A second crash changes nothing more, whatever it picks.
func TestP6_3Twice(t *testing.T) {
	chance := rand.New(rand.NewSource(2))
	for range 2000 {
		d := disk.Crash(chanceDisk(chance, 6, 24), chancePicks(chance, 6))
		wantDisk(t, disk.Crash(d, chancePicks(chance, 6)), d)
	}
}

// ledger is what a disk must hold, by another way: files by their numbers.
type ledger struct {
	room int
	data map[int]string
	sure map[int]int
}

func (l ledger) used() int {
	used := 0
	for _, text := range l.data {
		used += len(text)
	}
	return used
}

func (l ledger) disk() api.Disk {
	d := api.Disk{Cap: l.room}
	for _, no := range slices.Sorted(maps.Keys(l.data)) {
		d.F = append(d.F, file(no, l.sure[no], l.data[no]))
	}
	return d
}

// step makes one change by chance, on a disk and in the ledger; both errors are told.
func (l ledger) step(chance *rand.Rand, d api.Disk) (x api.Disk, e, want api.Errno) {
	no, n := chance.Intn(20), chance.Intn(30)-3
	text, is := l.data[no]
	kind := chance.Intn(7)
	switch {
	case kind <= 1 && no == 0:
		want = api.ErrArg
	case kind <= 1 && is:
		want = api.ErrThere
	case kind <= 1 && len(l.data) == 12:
		want = api.ErrFull
	case kind > 1 && !is:
		want = api.ErrNone
	case kind <= 3 && kind > 1 && l.used()+max(n, 0) > l.room:
		want = api.ErrFull
	case kind == 5 && (n < 0 || n > len(text)):
		want = api.ErrArg
	}
	b := make([]byte, max(n, 0))
	chance.Read(b)
	switch kind {
	case 0, 1:
		x, e = disk.Make(d, no)
	case 2, 3:
		x, e = disk.Write(d, no, b)
	case 4:
		x, e = disk.Sync(d, no)
	case 5:
		x, e = disk.Cut(d, no, n)
	case 6:
		x, e = disk.Drop(d, no)
	}
	if want != api.OK {
		return x, e, want
	}
	switch kind {
	case 0, 1:
		l.data[no], l.sure[no] = "", 0
	case 2, 3:
		l.data[no] += string(b)
	case 4:
		l.sure[no] = len(text)
	case 5:
		l.data[no], l.sure[no] = text[:n], n
	case 6:
		delete(l.data, no)
		delete(l.sure, no)
	}
	return x, e, want
}

// Whatever is done, one behind the other, a disk holds what the ledger does; what came ahead stays as it was.
func TestP6_2Any(t *testing.T) {
	chance := rand.New(rand.NewSource(3))
	seen := map[api.Errno]int{}
	for range 300 {
		l := ledger{chance.Intn(400), map[int]string{}, map[int]int{}}
		d, _ := disk.New(l.room)
		var all, copies []api.Disk
		for range 150 {
			all, copies = append(all, d), append(copies, copyOf(d))
			x, e, want := l.step(chance, d)
			seen[want]++
			if e != want || !same(x, l.disk()) {
				t.Fatalf("%v, %d, not %v, %d", x, e, l.disk(), want)
			}
			d = x
		}
		for i := range all {
			if !same(all[i], copies[i]) {
				t.Fatalf("%v became %v", copies[i], all[i])
			}
		}
	}
	for _, e := range []api.Errno{api.OK, api.ErrArg, api.ErrNone, api.ErrFull, api.ErrThere} {
		if seen[e] < 300 {
			t.Errorf("%d was wanted %d times", e, seen[e])
		}
	}
}

// What is sure stays, through crashes too, till it is cut off or dropped; what may be stays so.
func TestP6_4Any(t *testing.T) {
	chance := rand.New(rand.NewSource(4))
	crashes := 0
	for range 300 {
		l := ledger{chance.Intn(400), map[int]string{}, map[int]int{}}
		d, _ := disk.New(l.room)
		for range 150 {
			x, _, _ := l.step(chance, d)
			if chance.Intn(10) == 0 {
				crashes++
				x = disk.Crash(x, chancePicks(chance, 12))
				if len(x.F) != len(l.data) {
					t.Fatalf("%d files, not %d", len(x.F), len(l.data))
				}
				for _, f := range x.F {
					sure := l.data[f.No][:l.sure[f.No]]
					if len(f.Data) > len(l.data[f.No]) || f.Sure != len(f.Data) || string(f.Data[:min(len(sure), len(f.Data))]) != sure {
						t.Fatalf("a crash left %v of %q, %q of it sure", f, l.data[f.No], sure)
					}
					l.data[f.No], l.sure[f.No] = string(f.Data), f.Sure
				}
			}
			if !disk.May(x) || x.Cap != l.room {
				t.Fatalf("%v may not be", x)
			}
			d = x
		}
	}
	if crashes < 1000 {
		t.Errorf("only %d crashes", crashes)
	}
}

// Of disks at all edges each change, and each crash, makes one that may be; and what is sure of other files stays.
func TestP6_4Edges(t *testing.T) {
	for _, d := range goods() {
		var l []api.Disk
		take := func(x api.Disk, _ api.Errno) { l = append(l, x) }
		for _, no := range []int{0, 1, 2, 3, 5, 9, 12, 13, top - 1, top, top + 1} {
			take(disk.Make(d, no))
			take(disk.Sync(d, no))
			take(disk.Drop(d, no))
			for _, n := range []int{0, 1, 2, 3, 9, 65535, 65536} {
				take(disk.Write(d, no, make([]byte, n)))
				take(disk.Cut(d, no, n))
			}
		}
		for _, picks := range [][]int{nil, {1, 1}, {9, 1, 2}, {-1, 0, 99999, 1, 2, 2}} {
			l = append(l, disk.Crash(d, picks))
		}
		for _, x := range l {
			if !disk.May(x) {
				t.Errorf("may not be: Cap %d, %d files", x.Cap, len(x.F))
			}
		}
	}
}

// calls are all calls that answer a disk, each made on d.
func calls() []func(d api.Disk) api.Disk {
	first := func(x api.Disk, _ api.Errno) api.Disk { return x }
	return []func(d api.Disk) api.Disk{
		func(d api.Disk) api.Disk { return first(disk.Make(d, 1)) },
		func(d api.Disk) api.Disk { return first(disk.Make(d, 3)) },
		func(d api.Disk) api.Disk { return first(disk.Make(d, 99)) },
		func(d api.Disk) api.Disk { return first(disk.Make(d, 0)) },
		func(d api.Disk) api.Disk { return first(disk.Make(d, 2)) },
		func(d api.Disk) api.Disk { return first(disk.Write(d, 2, []byte("12"))) },
		func(d api.Disk) api.Disk { return first(disk.Write(d, 5, []byte("1234567890"))) },
		func(d api.Disk) api.Disk { return first(disk.Write(d, 9, []byte("1"))) },
		func(d api.Disk) api.Disk { return first(disk.Write(d, 2, nil)) },
		func(d api.Disk) api.Disk { return first(disk.Write(d, 9, make([]byte, 11))) },
		func(d api.Disk) api.Disk { return first(disk.Write(d, 3, nil)) },
		func(d api.Disk) api.Disk { return first(disk.Sync(d, 2)) },
		func(d api.Disk) api.Disk { return first(disk.Sync(d, 3)) },
		func(d api.Disk) api.Disk { return first(disk.Cut(d, 2, 0)) },
		func(d api.Disk) api.Disk { return first(disk.Cut(d, 2, 3)) },
		func(d api.Disk) api.Disk { return first(disk.Cut(d, 9, 9)) },
		func(d api.Disk) api.Disk { return first(disk.Cut(d, 2, -1)) },
		func(d api.Disk) api.Disk { return first(disk.Cut(d, 3, 0)) },
		func(d api.Disk) api.Disk { return first(disk.Drop(d, 2)) },
		func(d api.Disk) api.Disk { return first(disk.Drop(d, 5)) },
		func(d api.Disk) api.Disk { return first(disk.Drop(d, 9)) },
		func(d api.Disk) api.Disk { return first(disk.Drop(d, 3)) },
		func(d api.Disk) api.Disk { return disk.Crash(d, nil) },
		func(d api.Disk) api.Disk { return disk.Crash(d, []int{2, 0}) },
		func(d api.Disk) api.Disk { return disk.Crash(d, []int{9, 1}) },
	}
}

// spoil changes all of a disk that can be changed, and writes into what room is behind its lists.
func spoil(d api.Disk) {
	for _, f := range d.F[:cap(d.F)] {
		b := f.Data[:cap(f.Data)]
		for i := range b {
			b[i] ^= 255
		}
	}
	l := d.F[:cap(d.F)]
	for i := range l {
		l[i] = api.File{No: -7, Data: []byte("spoiled"), Sure: -7}
	}
}

// roomy is a disk like three, but all its lists are parts of greater ones, and its bytes one behind the other in the same memory; it tells whether that memory is as it was.
func roomy(room int) (api.Disk, func() bool) {
	text := "abcdemooringsxBEHIND"
	b := []byte(text)
	l := []api.File{{No: 2, Data: b[:5], Sure: 2}, {No: 5, Data: b[5:5], Sure: 0}, {No: 9, Data: b[5:14], Sure: 9}, {No: 11, Data: b[:3], Sure: 1}, {No: 12}}
	d := api.Disk{Cap: room, F: l[:3]}
	return d, func() bool {
		return string(b) == text && same(diskOf(9, l...), diskOf(9, file(2, 2, "abcde"), file(5, 0, ""), file(9, 9, "mooringsx"), file(11, 1, "abc"), file(12, 0, "")))
	}
}

// What is handed in stays as it was, also behind its lists' ends, whatever is done to what came back; and the other way round. So it is of disks that may not be.
func TestR3OwnMemory(t *testing.T) {
	for _, room := range []int{24, 14, 13, -1} {
		for i, call := range calls() {
			d, isAsItWas := roomy(room)
			got, other := call(d), call(d)
			want := copyOf(got)
			if !isAsItWas() {
				t.Errorf("%d: changed what was handed in, of room for %d", i, room)
			}
			spoil(other)
			if !isAsItWas() {
				t.Errorf("%d: an answer shares what was handed in, of room for %d", i, room)
			}
			spoil(d)
			if !same(got, want) {
				t.Errorf("%d: what came back shares what was handed in, or another answer, of room for %d", i, room)
			}
		}
	}
}

// No two files of an answer share memory, also where those handed in did.
func TestR3FilesApart(t *testing.T) {
	for _, room := range []int{24, -1} {
		for i, call := range calls() {
			d, _ := roomy(room)
			d.F[2].Data = d.F[0].Data
			d.F[2].Sure = 0
			got := call(d)
			for at := range got.F {
				want := copyOf(got)
				b := got.F[at].Data[:cap(got.F[at].Data)]
				for k := range b {
					b[k]++
				}
				for k := range want.F[at].Data {
					want.F[at].Data[k]++
				}
				if !same(got, want) {
					t.Errorf("%d: the file at %d shares memory with another one", i, at)
				}
			}
		}
	}
}

// What is written is the caller's own again, and so are the picks.
func TestR3BytesAndPicks(t *testing.T) {
	whole := []byte("0123456789")
	b := whole[2:5]
	d, _ := disk.Write(three(), 5, b)
	x, _ := disk.Write(d, 5, b)
	copy(whole, "##########")
	if string(d.F[1].Data) != "234" || string(x.F[1].Data) != "234234" {
		t.Errorf("Write shares what it was given: %v, %v", d, x)
	}
	spoil(x)
	if !bytes.Equal(whole, []byte("##########")) {
		t.Error("Write's answer shares what was written")
	}
	picks := []int{2, 1, 5, 3, 9, 9}
	disk.Crash(diskOf(9, file(1, 0, "abc"), file(2, 0, "abc")), picks[:3])
	if !slices.Equal(picks, []int{2, 1, 5, 3, 9, 9}) {
		t.Error("Crash changed its picks")
	}
}

// A file's own bytes may be written behind it, and behind another one.
func TestR3WriteOwnBytes(t *testing.T) {
	d := three()
	b := d.F[0].Data
	x, e := disk.Write(d, 2, b)
	wanted(t)(diskOf(24, file(2, 2, "abcdeabcde"), file(5, 0, ""), file(9, 9, "mooringsx")), api.OK)(x, e)
	x, e = disk.Write(d, 9, b[:3])
	wanted(t)(diskOf(24, file(2, 2, "abcde"), file(5, 0, ""), file(9, 9, "mooringsxabc")), api.OK)(x, e)
	wantDisk(t, d, three())
}

// Behind what a cut or a crash leaves, what was there is not to be had any more.
func TestR3NothingBehindTheEnd(t *testing.T) {
	d := diskOf(99, file(2, 4, "secret, and a secret"))
	cut, _ := disk.Cut(d, 2, 5)
	for _, x := range []api.Disk{cut, disk.Crash(d, []int{1, 0}), disk.Crash(d, nil), disk.Crash(d, []int{1, 1})} {
		b := x.F[0].Data
		for _, c := range b[len(b):cap(b)] {
			if c != 0 {
				t.Errorf("behind %q there is %q", b, b[:cap(b)])
			}
		}
	}
}

// Whatever it is given, no call panics, and none hangs on what was asked ahead.
func TestP1Any(t *testing.T) {
	chance := rand.New(rand.NewSource(5))
	wild := func() int {
		l := []int{math.MinInt, math.MinInt + 1, -1, 0, 1, 2, 3, 4, 12, 65536, 65537, top, top + 1, math.MaxInt - 1, math.MaxInt}
		return l[chance.Intn(len(l))]
	}
	for range 20000 {
		d := api.Disk{Cap: wild()}
		for range chance.Intn(16) {
			d.F = append(d.F, api.File{No: wild(), Data: make([]byte, chance.Intn(6)), Sure: wild()})
		}
		if chance.Intn(2) == 0 {
			d = chanceDisk(chance, 13, 6)
		}
		no, n, b, picks := wild(), wild(), make([]byte, chance.Intn(9)), []int{wild(), wild(), wild()}
		disk.New(no)
		disk.Same(d, three())
		if !disk.May(d) && (disk.Find(d, no) != -1 || disk.Used(d) != 0) {
			t.Errorf("of %v something is told", d)
		}
		for _, call := range []func() (api.Disk, api.Errno){
			func() (api.Disk, api.Errno) { return disk.Make(d, no) },
			func() (api.Disk, api.Errno) { return disk.Write(d, no, b) },
			func() (api.Disk, api.Errno) { return disk.Sync(d, no) },
			func() (api.Disk, api.Errno) { return disk.Cut(d, no, n) },
			func() (api.Disk, api.Errno) { return disk.Drop(d, no) },
			func() (api.Disk, api.Errno) { return disk.Crash(d, picks), api.OK },
		} {
			x, e := call()
			again, eAgain := call()
			if e != eAgain || !same(x, again) || e != api.OK && !same(x, d) || disk.May(x) != disk.May(d) {
				t.Errorf("%v: %v, %d, then %v, %d", d, x, e, again, eAgain)
			}
		}
	}
}
