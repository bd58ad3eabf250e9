package entry_test

import (
	"bytes"
	"encoding/binary"
	"math"
	"math/rand"
	"slices"
	"testing"

	"pelican/api"
	"pelican/entry"
)

// bounded are the numbers of an entry that have bounds, and the greatest that each may be.
var bounded = []struct {
	name string
	set  func(*api.Entry, int)
	most int
}{
	{"kind", func(e *api.Entry, n int) { e.Kind = n }, 4},
	{"tick", func(e *api.Entry, n int) { e.Tick = n }, 1 << 30},
	{"epoch", func(e *api.Entry, n int) { e.Epoch = n }, 1 << 30},
	{"user", func(e *api.Entry, n int) { e.User = n }, 255},
	{"cmd", func(e *api.Entry, n int) { e.Cmd = n }, 255},
	{"arg", func(e *api.Entry, n int) { e.Arg = n }, 65535},
	{"code", func(e *api.Entry, n int) { e.Code = api.Errno(n) }, 12},
}

// may tells by the chapter's words whether an entry may be.
func may(e api.Entry) bool {
	switch {
	case e.Kind < 0 || e.Kind > 4:
		return false
	case e.Tick < 0 || e.Tick > 1<<30 || e.Epoch < 0 || e.Epoch > 1<<30:
		return false
	case e.User < 0 || e.User > 255 || e.Cmd < 0 || e.Cmd > 255:
		return false
	case e.Arg < 0 || e.Arg > 65535:
		return false
	default:
		return e.Code >= 0 && e.Code <= 12
	}
}

// peer are the library's bytes of an entry that may be.
func peer(e api.Entry) []byte {
	big := binary.BigEndian
	b := big.AppendUint32([]byte{byte(e.Kind)}, uint32(e.Tick))
	b = append(big.AppendUint32(b, uint32(e.Epoch)), byte(e.User))
	b = big.AppendUint64(big.AppendUint64(b, e.Sess), e.Count)
	return append(big.AppendUint16(append(b, byte(e.Cmd)), uint16(e.Arg)), byte(e.Code))
}

// peerGet is the entry that is to be got of bytes.
func peerGet(b []byte) (api.Entry, bool) {
	if len(b) != 30 {
		return api.Entry{}, false
	}
	big := binary.BigEndian
	tick, epoch := big.Uint32(b[1:]), big.Uint32(b[5:])
	if b[0] > 4 || tick > 1<<30 || epoch > 1<<30 || b[29] > 12 {
		return api.Entry{}, false
	}
	return api.Entry{
		Kind: int(b[0]), Tick: int(tick), Epoch: int(epoch), User: int(b[9]),
		Sess: big.Uint64(b[10:]), Count: big.Uint64(b[18:]),
		Cmd: int(b[26]), Arg: int(big.Uint16(b[27:])), Code: api.Errno(b[29]),
	}, true
}

// edges are numbers around those of which a bit more is needed, at both ends of all kinds of integers, and below zero.
func edges() []int {
	l := []int{0, 1, 2, 3, 4, 5, 6, 7, 12, 13, 258, 300, 515, math.MinInt, math.MinInt + 1, math.MaxInt, math.MaxInt - 1}
	for bit := range 63 {
		for low := -2; low <= 13; low++ {
			l = append(l, 1<<bit+low, -1<<bit+low)
		}
	}
	return l
}

// wides are numbers of 64 bits, at edges.
func wides() []uint64 {
	l := []uint64{0, 0x0102030405060708, 0xf1e2d3c4b5a69788, math.MaxUint64}
	for bit := range 64 {
		n := uint64(1) << bit
		l = append(l, n-1, n, n+1, n|n>>9)
	}
	return l
}

// drawn is an entry that may be, by chance, with edges among its numbers.
func drawn(chance *rand.Rand) api.Entry {
	e := api.Entry{}
	for _, x := range bounded {
		x.set(&e, []int{chance.Intn(x.most + 1), chance.Intn(x.most + 1), 0, 1, x.most - 1, x.most}[chance.Intn(6)])
	}
	wide := func() uint64 {
		return []uint64{chance.Uint64(), 0, 1, 255, 256, 1 << 63, math.MaxUint64, chance.Uint64() >> chance.Intn(64)}[chance.Intn(8)]
	}
	e.Sess, e.Count = wide(), wide()
	return e
}

// put holds one call of May, and of Put, against the chapter's words; what is put is got (P10.3).
func put(t *testing.T, e api.Entry) {
	t.Helper()
	b, is := entry.Put(e)
	if !may(e) {
		if entry.May(e) || is || b != nil {
			t.Errorf("%+v may not be: %v, %v, %v", e, entry.May(e), b, is)
		}
		return
	}
	if !entry.May(e) || !is || !bytes.Equal(b, peer(e)) || len(b) != 30 {
		t.Errorf("%+v: %v, %v, %v", e, entry.May(e), b, is)
	}
	if again, is := entry.Get(b); !is || again != e {
		t.Errorf("%+v is got as %+v, %v", e, again, is)
	}
}

// got holds one call of Get against the chapter's words; what is got is put as the same bytes (P10.3).
func got(t *testing.T, b []byte) {
	t.Helper()
	e, is := entry.Get(b)
	if want, good := peerGet(b); e != want || is != good {
		t.Errorf("%v: %+v, %v, not %+v, %v", b, e, is, want, good)
	}
	if again, good := entry.Put(e); is && (!good || !bytes.Equal(again, b)) {
		t.Errorf("%v is put as %v, %v", b, again, good)
	}
}

// TestLimits: the tests' numbers are api's.
func TestLimits(t *testing.T) {
	kinds := []int{api.EnBoot, api.EnOpen, api.EnDo, api.EnNo, api.EnEnd, api.EnKinds}
	if !slices.Equal(kinds, []int{0, 1, 2, 3, 4, 5}) {
		t.Error("kinds", kinds)
	}
	if api.MaxTick != 1<<30 || api.MaxEpoch != 1<<30 || api.MaxUser != 255 || api.MaxArg != 65535 || api.EntryLen != 30 || api.OK != 0 || api.ErrFull != 12 {
		t.Error("limits")
	}
}

// TestExamples: P10.1, that of the chapter, and one with all numbers, byte by byte.
func TestExamples(t *testing.T) {
	for _, x := range []struct {
		e    api.Entry
		want []byte
	}{
		{api.Entry{Kind: api.EnBoot, Epoch: 3}, slices.Concat(make([]byte, 8), []byte{3}, make([]byte, 21))},
		{api.Entry{}, make([]byte, 30)},
		{
			api.Entry{Kind: api.EnEnd, Tick: 0x01020304, Epoch: 0x05060708, User: 9, Sess: 0x0a0b0c0d0e0f1011, Count: 0xf213141516171819, Cmd: 0x1a, Arg: 0xeb1c, Code: api.ErrUnsafe},
			[]byte{4, 1, 2, 3, 4, 5, 6, 7, 8, 9, 10, 11, 12, 13, 14, 15, 16, 17, 242, 19, 20, 21, 22, 23, 24, 25, 26, 235, 28, 11},
		},
		{
			api.Entry{Kind: api.EnNo, Tick: 1 << 30, Epoch: 1 << 30, User: 255, Sess: math.MaxUint64, Count: math.MaxUint64, Cmd: 255, Arg: 65535, Code: api.ErrFull},
			slices.Concat([]byte{3, 64, 0, 0, 0, 64, 0, 0, 0}, bytes.Repeat([]byte{255}, 20), []byte{12}),
		},
	} {
		if b, is := entry.Put(x.e); !is || !bytes.Equal(b, x.want) {
			t.Errorf("%+v: %v, %v", x.e, b, is)
		}
		if e, is := entry.Get(x.want); !is || e != x.e {
			t.Errorf("%v: %+v, %v", x.want, e, is)
		}
	}
}

// TestPut: P10.1 and P10.3, entries that may be, by chance.
func TestPut(t *testing.T) {
	chance := rand.New(rand.NewSource(1))
	for range 20000 {
		e := drawn(chance)
		if !may(e) {
			t.Fatalf("%+v is drawn", e)
		}
		put(t, e)
		got(t, peer(e))
	}
}

// TestPutEdges: P10.1, each number at edges, in bounds and out of them, in entries that may be but for it.
func TestPutEdges(t *testing.T) {
	chance := rand.New(rand.NewSource(2))
	full := api.Entry{Sess: math.MaxUint64, Count: math.MaxUint64}
	for _, x := range bounded {
		x.set(&full, x.most)
	}
	for _, e := range []api.Entry{{}, full, drawn(chance), drawn(chance)} {
		for _, x := range bounded {
			for _, n := range append(edges(), x.most-1, x.most, x.most+1, x.most+256) {
				one := e
				x.set(&one, n)
				if may(one) != (n >= 0 && n <= x.most) {
					t.Fatalf("%s: %d", x.name, n)
				}
				put(t, one)
			}
		}
		for _, n := range wides() {
			one, other := e, e
			one.Sess, other.Count = n, n
			put(t, one)
			put(t, other)
		}
	}
}

// TestPutWrong: P10.1, entries of which several numbers are out of bounds, or stand for one another's bounds.
func TestPutWrong(t *testing.T) {
	chance := rand.New(rand.NewSource(3))
	numbers := []int{-1, 0, 4, 5, 12, 13, 255, 256, 65535, 65536, 1 << 30, 1<<30 + 1, 1<<32 + 1, math.MinInt, math.MaxInt}
	for range 50000 {
		e := drawn(chance)
		for range 1 + chance.Intn(4) {
			bounded[chance.Intn(len(bounded))].set(&e, numbers[chance.Intn(len(numbers))])
		}
		put(t, e)
	}
	for _, n := range numbers {
		e := api.Entry{Sess: uint64(n), Count: uint64(n)}
		for _, x := range bounded {
			x.set(&e, n)
		}
		put(t, e)
	}
}

// TestGet: P10.1, entries' bytes with one byte changed to any other, and with two.
func TestGet(t *testing.T) {
	chance := rand.New(rand.NewSource(4))
	for _, e := range []api.Entry{{}, drawn(chance), drawn(chance), drawn(chance), {Tick: 1 << 30, Epoch: 1 << 30}} {
		b := peer(e)
		for at := range b {
			for n := range 256 {
				c := slices.Clone(b)
				c[at] = byte(n)
				got(t, c)
				c[chance.Intn(len(c))]++
				got(t, c)
			}
		}
	}
}

// TestGetBounds: P10.1, bytes that would tell a number that is too great are no entry's.
func TestGetBounds(t *testing.T) {
	wrong := func(at int, part []byte) {
		t.Helper()
		b := make([]byte, 30)
		copy(b[at:], part)
		if e, is := entry.Get(b); is || e != (api.Entry{}) {
			t.Errorf("%v: %+v, %v", b, e, is)
		}
	}
	for n := range 256 {
		if n > 4 {
			wrong(0, []byte{byte(n)})
		}
		if n > 12 {
			wrong(29, []byte{byte(n)})
		}
	}
	for _, n := range []uint32{1<<30 + 1, 1<<30 + 256, 3 << 29, 1<<31 - 1, 1 << 31, 1<<31 + 1, math.MaxUint32 - 1, math.MaxUint32} {
		for _, at := range []int{1, 5} {
			wrong(at, binary.BigEndian.AppendUint32(nil, n))
		}
	}
	// What is in bounds is told beside them.
	for _, n := range []uint32{0, 1, 1<<30 - 1, 1 << 30} {
		b := make([]byte, 30)
		binary.BigEndian.PutUint32(b[1:], n)
		binary.BigEndian.PutUint32(b[5:], n)
		if e, is := entry.Get(b); !is || e != (api.Entry{Tick: int(n), Epoch: int(n)}) {
			t.Errorf("%d: %+v, %v", n, e, is)
		}
	}
}

// TestGetEnds: P10.1, too few bytes, too many, and several entries' at once.
func TestGetEnds(t *testing.T) {
	chance := rand.New(rand.NewSource(5))
	got(t, nil)
	got(t, []byte{})
	for range 10 {
		b := slices.Concat(peer(drawn(chance)), peer(drawn(chance)), peer(drawn(chance)))
		for n := range len(b) + 1 {
			got(t, b[:n]) // those that are cut off lie behind in memory
			got(t, b[n:])
			got(t, make([]byte, n))
		}
	}
	for _, n := range []int{255, 256, 30 + 256, 30 + 65536, 1 << 20} {
		got(t, make([]byte, n))
	}
}

// TestGetByChance: P10.1 and P10.3, bytes by chance, and the same with small ones where there are bounds.
func TestGetByChance(t *testing.T) {
	chance := rand.New(rand.NewSource(6))
	there := 0
	for range 50000 {
		b := make([]byte, 30)
		chance.Read(b)
		got(t, b)
		b[0], b[29] = byte(chance.Intn(6)), byte(chance.Intn(14))
		b[1], b[5] = b[1]%66, b[5]%66
		if _, is := peerGet(b); is {
			there++
		}
		got(t, b)
	}
	if there < 10000 {
		t.Errorf("only %d are entries'", there)
	}
}

// others are entries that differ from one in one number.
func others(e api.Entry) []api.Entry {
	var l []api.Entry
	for _, n := range []int{-1, 1, 256, 1 << 32, math.MinInt} {
		one := slices.Repeat([]api.Entry{e}, 9)
		one[0].Kind += n
		one[1].Tick += n
		one[2].Epoch += n
		one[3].User += n
		one[4].Sess += uint64(n)
		one[5].Count += uint64(n)
		one[6].Cmd += n
		one[7].Arg += n
		one[8].Code += api.Errno(n)
		l = append(l, one...)
	}
	return l
}

// wild is any entry, also such as may not be.
func wild(chance *rand.Rand) api.Entry {
	return api.Entry{
		Kind: int(chance.Uint64()), Tick: int(chance.Uint64()), Epoch: int(chance.Uint64()), User: int(chance.Uint64()),
		Sess: chance.Uint64(), Count: chance.Uint64(),
		Cmd: int(chance.Uint64()), Arg: int(chance.Uint64()), Code: api.Errno(chance.Uint64()),
	}
}

// TestSame: P10.2, lists that differ in one number of one entry, in how many there are, or in their order; also of entries that may not be.
func TestSame(t *testing.T) {
	chance := rand.New(rand.NewSource(7))
	for count := range 7 {
		var l []api.Entry
		for i := range count {
			l = append(l, []api.Entry{drawn(chance), wild(chance), {Tick: i}}[chance.Intn(3)])
		}
		if !entry.Same(l, l) || !entry.Same(l, slices.Clone(l)) || !entry.Same(slices.Grow(slices.Clone(l), 9), l) {
			t.Errorf("%+v is another one", l)
		}
		differ := func(x []api.Entry) {
			t.Helper()
			if entry.Same(l, x) || entry.Same(x, l) {
				t.Errorf("%+v and %+v are the same", l, x)
			}
		}
		for at := range l {
			for _, e := range others(l[at]) {
				x := slices.Clone(l)
				x[at] = e
				differ(x)
			}
			differ(l[:at])
			differ(l[at+1:])
			differ(slices.Insert(slices.Clone(l), at, l[at]))
		}
		differ(append(slices.Clone(l), api.Entry{}))
		for at := 1; at < count; at++ {
			x := slices.Clone(l)
			x[at-1], x[at] = x[at], x[at-1]
			differ(x)
		}
	}
}

// TestSameNone: P10.2 and R6, no entries may be nil or empty.
func TestSameNone(t *testing.T) {
	none := [][]api.Entry{nil, {}, make([]api.Entry, 0, 5)}
	for i, a := range none {
		for j, b := range none {
			if !entry.Same(a, b) {
				t.Error(i, j)
			}
		}
		if one := []api.Entry{{}}; entry.Same(a, one) || entry.Same(one, a) {
			t.Error(i)
		}
	}
}

// list holds Of, for each kind, and Epoch of a list against the chapter's words.
func list(t *testing.T, l []api.Entry, kinds []int) {
	t.Helper()
	for _, kind := range kinds {
		want := slices.DeleteFunc(slices.Clone(l), func(e api.Entry) bool { return e.Kind != kind })
		if some := entry.Of(l, kind); !slices.Equal(some, want) {
			t.Errorf("of kind %d of %+v: %+v", kind, l, some)
		}
	}
	epoch := 0
	for _, e := range l {
		if e.Kind == 0 {
			epoch = e.Epoch
		}
	}
	if entry.Epoch(l) != epoch {
		t.Errorf("%+v: epoch %d, not %d", l, entry.Epoch(l), epoch)
	}
}

// TestLists: P10.2, all lists of up to 5 entries of all kinds, and of kinds that are none, with epochs that rise, and such as fall.
func TestLists(t *testing.T) {
	kinds := []int{-1, 0, 1, 2, 3, 4, 5}
	rows := [][]int{nil}
	for len(rows) > 0 && len(rows[0]) <= 5 {
		row := rows[0]
		rows = rows[1:]
		up, down := make([]api.Entry, len(row)), make([]api.Entry, len(row))
		for i, kind := range row {
			up[i] = api.Entry{Kind: kind, Epoch: 5 + i, Tick: i}
			down[i] = api.Entry{Kind: kind, Epoch: 2 - i, Count: uint64(i)}
		}
		list(t, up, kinds)
		list(t, down, kinds)
		for _, kind := range kinds {
			rows = append(rows, append(slices.Clone(row), kind))
		}
	}
}

// TestListEdges: P10.2, kinds and epochs that may not be are told as they are.
func TestListEdges(t *testing.T) {
	numbers := edges()
	var l []api.Entry
	for _, n := range numbers {
		l = append(l, api.Entry{Kind: n, Epoch: n, User: len(l)})
		list(t, []api.Entry{{Epoch: n}}, []int{0, n})
		list(t, []api.Entry{{Epoch: 7}, {Epoch: n}, {Kind: 1, Epoch: 9}}, []int{0, 1, n})
	}
	list(t, l, numbers)
	if some := entry.Of(nil, 0); len(some) != 0 || entry.Epoch(nil) != 0 || entry.Epoch([]api.Entry{}) != 0 {
		t.Error("none")
	}
	if n := entry.Epoch([]api.Entry{{Epoch: 9}, {Kind: api.EnOpen, Epoch: 8}, {Epoch: 0}, {Kind: api.EnNo, Epoch: 7}}); n != 0 {
		t.Errorf("the last start is of epoch 0: %d", n)
	}
}

// TestListGreat: P10.2, lists as long as a log's, and longer.
func TestListGreat(t *testing.T) {
	chance := rand.New(rand.NewSource(8))
	for _, count := range []int{255, 256, 257, 264, 265, 100000} {
		l := make([]api.Entry, count)
		for i := range l {
			l[i] = drawn(chance)
			l[i].Kind = 1 + chance.Intn(4)
		}
		all := []int{0, 1, 2, 3, 4, 5}
		list(t, l, all)
		for _, at := range []int{0, 1, count / 2, count - 1} {
			l[at].Kind, l[at].Epoch = 0, 1+at
			list(t, l, all)
		}
		for i := range l {
			l[i].Kind = 2
		}
		list(t, l, all)
	}
}

// TestOwn: R3 and R5, what is handed in stays, also what lies behind it in memory; what is answered is the caller's own.
func TestOwn(t *testing.T) {
	e := api.Entry{Kind: 2, Tick: 3, Epoch: 4, User: 5, Sess: 6, Count: 7, Cmd: 8, Arg: 9, Code: 10}
	b, _ := entry.Put(e)
	again, _ := entry.Put(e)
	clear(append(b, 1)[:30])
	clear(b)
	if third, _ := entry.Put(e); !bytes.Equal(again, peer(e)) || !bytes.Equal(third, peer(e)) {
		t.Error("two answers share their bytes")
	}
	memory := bytes.Repeat(peer(e), 3)
	one, is := entry.Get(memory[:30])
	if !is || !bytes.Equal(memory, bytes.Repeat(peer(e), 3)) {
		t.Error("what is handed in is changed")
	}
	clear(memory)
	if one != e {
		t.Error("an entry is changed")
	}

	l := make([]api.Entry, 6, 20)
	for i := range l[:20] {
		l[:20][i] = api.Entry{Kind: i % 3, Epoch: i, Tick: 100 + i}
	}
	was := slices.Clone(l[:20])
	for kind := range 3 {
		some, same := entry.Of(l, kind), entry.Of(l, kind)
		want := []api.Entry{was[kind], was[kind+3]}
		clear(append(some, api.Entry{}))
		clear(some[:cap(some)])
		if entry.Epoch(l) != 3 || !entry.Same(l, was[:6]) || !slices.Equal(l[:20], was) {
			t.Error("what is handed in is changed")
		}
		clear(l)
		if !slices.Equal(same, want) {
			t.Errorf("what is answered is changed: %+v", same)
		}
		copy(l, was)
	}
	// All of them have the kind, and yet the answer is no part of them.
	if some := entry.Of(l[:1], 0); len(some) == 1 {
		some[0].Tick = 9
	}
	if l[0] != was[0] {
		t.Error("what is handed in is answered")
	}
}
