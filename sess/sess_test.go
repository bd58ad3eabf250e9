package sess_test

import (
	"math"
	"math/rand"
	"slices"
	"testing"

	"pelican/api"
	"pelican/sess"
)

// from tells whether a number is from one to another, with both.
func from(low, n, high int) bool { return low <= n && n <= high }

// may, same, find, late, begin, prove, use and drop are what is to be answered, by the chapter's words.
func may(l []api.Sess) bool {
	draws := map[uint64]bool{}
	for _, x := range l {
		if draws[x.Draw] || !from(1, x.User, 255) || !from(0, x.Epoch, 1<<30) || !from(0, x.Last, 1<<30) {
			return false
		}
		if !x.Open && x.Count != 0 {
			return false
		}
		draws[x.Draw] = true
	}
	return len(l) <= 4
}

func same(a, b []api.Sess) bool {
	if len(a) != len(b) {
		return false
	}
	for i := range a {
		if a[i] != b[i] {
			return false
		}
	}
	return true
}

func find(l []api.Sess, draw uint64) int {
	for i := range l {
		if l[i].Draw == draw {
			return i
		}
	}
	return -1
}

func times(idle, now int) bool { return from(1, idle, 1<<20) && from(0, now, 1<<30) }

func late(x api.Sess, idle, now int) bool {
	return times(idle, now) && from(0, x.Last, 1<<30) && now >= x.Last+idle
}

func begin(l []api.Sess, x api.Sess, idle, now int) ([]api.Sess, api.Errno) {
	switch {
	case !may(l) || !times(idle, now) || !may([]api.Sess{x}) || x.Open:
		return l, api.ErrArg
	case find(l, x.Draw) >= 0:
		return l, api.ErrThere
	}
	var then []api.Sess
	for _, y := range l {
		if len(l) < 4 || !late(y, idle, now) {
			then = append(then, y)
		}
	}
	if len(then) == 4 {
		return l, api.ErrFull
	}
	x.Last = now
	return append(then, x), api.OK
}

func prove(l []api.Sess, draw uint64, idle, now int) ([]api.Sess, api.Errno) {
	at := find(l, draw)
	switch {
	case !may(l) || !times(idle, now):
		return l, api.ErrArg
	case at < 0:
		return l, api.ErrNone
	case late(l[at], idle, now):
		then, _ := drop(l, draw)
		return then, api.ErrLate
	case l[at].Open:
		return l, api.ErrThere
	}
	return with(l, at, func(x *api.Sess) { x.Open, x.Last = true, now }), api.OK
}

func use(l []api.Sess, draw, count uint64, idle, now int) ([]api.Sess, api.Errno) {
	at := find(l, draw)
	then, _ := drop(l, draw)
	switch {
	case !may(l) || !times(idle, now):
		return l, api.ErrArg
	case at < 0 || !l[at].Open:
		return l, api.ErrNone
	case late(l[at], idle, now):
		return then, api.ErrLate
	case count <= l[at].Count:
		return l, api.ErrCount
	case count == 0xffffffffffffffff:
		return then, api.OK
	}
	return with(l, at, func(x *api.Sess) { x.Count, x.Last = count, now }), api.OK
}

func drop(l []api.Sess, draw uint64) ([]api.Sess, bool) {
	at := find(l, draw)
	if at < 0 {
		return l, false
	}
	return append(slices.Clone(l[:at]), l[at+1:]...), true
}

// with are sessions of their own, one of them changed.
func with(l []api.Sess, at int, change func(x *api.Sess)) []api.Sess {
	l = slices.Clone(l)
	change(&l[at])
	return l
}

// begun is a session that is not open, open one that is.
func begun(draw uint64, last int) api.Sess {
	return api.Sess{User: int(draw%255) + 1, Epoch: 7, Draw: draw, Cn: ^draw, Key: api.Id{byte(draw), 31: 9}, Last: last}
}

func open(draw, count uint64, last int) api.Sess {
	x := begun(draw, last)
	x.Open, x.Count = true, count
	return x
}

// some are as many sessions as told, which may be if they are no more than 4: by turns not open and open ones.
func some(count int) []api.Sess {
	var l []api.Sess
	for i := range count {
		x := begun(uint64(10*i), 20+i)
		if i%2 == 1 {
			x = open(uint64(10*i), uint64(i), 20+i)
		}
		l = append(l, x)
	}
	return l
}

// wide are numbers at the edges of all kinds of integers, and such as a shorter one would take for a small one.
func wide() []int {
	var l []int
	for _, bits := range []int{8, 9, 15, 16, 20, 21, 30, 31, 32, 33, 62} {
		for low := -2; low <= 3; low++ {
			l = append(l, 1<<bits+low, -1<<bits+low)
		}
	}
	for near := range 5 {
		l = append(l, math.MinInt+near, math.MaxInt-near, near, -near)
	}
	return l
}

// counts are counters at the edges of all kinds of integers.
func counts() []uint64 {
	var l []uint64
	for bits := range 64 {
		l = append(l, 1<<bits-1, 1<<bits, 1<<bits+1)
	}
	return append(l, math.MaxUint64-2, math.MaxUint64-1, math.MaxUint64)
}

// The calls that answer sessions and an error.
const (
	begins = iota
	proves
	uses
	calls // how many there are
)

// call is one of them, with what it is given beside the sessions.
type call struct {
	kind        int
	x           api.Sess
	draw, count uint64
	idle, now   int
}

// asked is what the package answers, wanted what the chapter's words do.
func (c call) asked(l []api.Sess) ([]api.Sess, api.Errno) {
	switch c.kind {
	case begins:
		return sess.Begin(l, c.x, c.idle, c.now)
	case proves:
		return sess.Prove(l, c.draw, c.idle, c.now)
	}
	return sess.Use(l, c.draw, c.count, c.idle, c.now)
}

func (c call) wanted(l []api.Sess) ([]api.Sess, api.Errno) {
	switch c.kind {
	case begins:
		return begin(l, c.x, c.idle, c.now)
	case proves:
		return prove(l, c.draw, c.idle, c.now)
	}
	return use(l, c.draw, c.count, c.idle, c.now)
}

// held holds one call against the chapter's words, and answers what it answered; what it was given must stay as it was.
func held(t *testing.T, l []api.Sess, c call) ([]api.Sess, api.Errno) {
	t.Helper()
	before := slices.Clone(l)
	got, e := c.asked(l)
	want, wanted := c.wanted(before)
	if e != wanted || !same(got, want) {
		t.Errorf("%+v of %+v answers %+v and %d, not %+v and %d", c, before, got, e, want, wanted)
	}
	if !same(l, before) {
		t.Errorf("%+v of %+v makes that %+v", c, before, l)
	}
	return got, e
}

// told holds all calls that tell something of sessions against the chapter's words.
func told(t *testing.T, l []api.Sess, draws ...uint64) {
	t.Helper()
	before := slices.Clone(l)
	if got := sess.May(l); got != may(l) {
		t.Errorf("%+v may be: %v", l, got)
	}
	for _, d := range draws {
		if got := sess.Find(l, d); got != find(l, d) {
			t.Errorf("of %+v, %d stands at %d", l, d, got)
		}
		got, is := sess.Drop(l, d)
		if want, wanted := drop(l, d); is != wanted || !same(got, want) {
			t.Errorf("%+v without %d is %+v, %v", l, d, got, is)
		}
	}
	if !same(l, before) {
		t.Errorf("%+v became %+v", before, l)
	}
}

// is asks for one answer that is written out.
func is(t *testing.T, want api.Errno, list ...api.Sess) func([]api.Sess, api.Errno) {
	return func(got []api.Sess, e api.Errno) {
		t.Helper()
		if e != want || !same(got, list) {
			t.Errorf("%+v and %d, not %+v and %d", got, e, list, want)
		}
	}
}

// The chapter's example: opened at 5, of idle 10.
func TestExample(t *testing.T) {
	l, e := sess.Begin(nil, begun(8, 99), 10, 3)
	is(t, api.OK, begun(8, 3))(l, e)
	l, e = sess.Prove(l, 8, 10, 5)
	is(t, api.OK, open(8, 0, 5))(l, e)
	for now := range 40 {
		if got := sess.Late(l[0], 10, now); got != (now >= 15) {
			t.Errorf("at %d, without use, it is late: %v", now, got)
		}
	}
	is(t, api.ErrLate)(sess.Use(l, 8, 1, 10, 15))
	l, e = sess.Use(l, 8, 1, 10, 14)
	is(t, api.OK, open(8, 1, 14))(l, e)
	is(t, api.OK, open(8, 2, 23))(sess.Use(l, 8, 2, 10, 23))
	is(t, api.ErrLate)(sess.Use(l, 8, 2, 10, 24))
}

// P18.1: at most 4.
func TestMayCount(t *testing.T) {
	for n := range 12 {
		if got := sess.May(some(n)); got != (n <= 4) {
			t.Errorf("%d may be: %v", n, got)
		}
	}
	if !sess.May(nil) || !sess.May([]api.Sess{}) {
		t.Error("none may be")
	}
	if sess.May(slices.Repeat(some(1), 300)) || sess.May(some(260)) {
		t.Error("far too many may not be")
	}
}

// P18.1: no two of one Draw, at whichever places, and whatever else they are.
func TestMayDraws(t *testing.T) {
	for n := 2; n <= 4; n++ {
		for at := range n {
			for _, d := range counts() {
				l := with(some(n), at, func(x *api.Sess) { x.Draw = d })
				told(t, l, d)
			}
			for other := range at {
				l := with(some(n), at, func(x *api.Sess) { x.Draw = uint64(10 * other) })
				if sess.May(l) {
					t.Errorf("%d and %d of %+v have one Draw", other, at, l)
				}
			}
		}
	}
	// Cn, Key, User and all else but the Draw may be the same.
	l := slices.Repeat([]api.Sess{open(3, 5, 7)}, 4)
	for i := range l {
		l[i].Draw = uint64(i) << 62
	}
	if !sess.May(l) {
		t.Errorf("%+v may not be", l)
	}
}

// P18.1: each number of each session, from below what it may be to above it.
func TestMayNumbers(t *testing.T) {
	numbers := wide()
	for n := -300; n <= 600; n++ {
		numbers = append(numbers, n)
	}
	for size := 1; size <= 4; size++ {
		for at := range size {
			for _, n := range numbers {
				for name, l := range map[string][]api.Sess{
					"User":  with(some(size), at, func(x *api.Sess) { x.User = n }),
					"Epoch": with(some(size), at, func(x *api.Sess) { x.Epoch = n }),
					"Last":  with(some(size), at, func(x *api.Sess) { x.Last = n }),
				} {
					want := name == "User" && from(1, n, 255) || name != "User" && from(0, n, 1<<30)
					if got := sess.May(l); got != want || may(l) != want {
						t.Errorf("%s %d at %d of %d may be: %v", name, n, at, size, got)
					}
				}
			}
		}
	}
}

// P18.1: only what is Open counts.
func TestMayOpen(t *testing.T) {
	for size := 1; size <= 4; size++ {
		for at := range size {
			for _, n := range counts() {
				shut := with(some(size), at, func(x *api.Sess) { x.Open, x.Count = false, n })
				if got := sess.May(shut); got != (n == 0) {
					t.Errorf("not open, Count %d at %d of %d may be: %v", n, at, size, got)
				}
				if l := with(some(size), at, func(x *api.Sess) { x.Open, x.Count = true, n }); !sess.May(l) {
					t.Errorf("open, Count %d at %d of %d may not be", n, at, size)
				}
			}
		}
	}
}

// changes are such of a session, one of each part.
func changes() []func(x *api.Sess) {
	all := []func(x *api.Sess){
		func(x *api.Sess) { x.Open = !x.Open },
		func(x *api.Sess) { x.User = -x.User },
		func(x *api.Sess) { x.Epoch = ^x.Epoch },
		func(x *api.Sess) { x.Last = ^x.Last },
	}
	for bit := range 64 {
		all = append(all,
			func(x *api.Sess) { x.User ^= 1 << bit },
			func(x *api.Sess) { x.Epoch ^= 1 << bit },
			func(x *api.Sess) { x.Draw ^= 1 << bit },
			func(x *api.Sess) { x.Cn ^= 1 << bit },
			func(x *api.Sess) { x.Count ^= 1 << bit },
			func(x *api.Sess) { x.Last ^= 1 << bit })
	}
	for bit := range 256 {
		all = append(all, func(x *api.Sess) { x.Key[bit/8] ^= 1 << (bit % 8) })
	}
	return all
}

// P18.1: sessions are the same, if all parts of all are, in order; also such as may not be.
func TestSame(t *testing.T) {
	for n := range 7 {
		l := some(n)
		if !sess.Same(l, l) || !sess.Same(l, slices.Clone(l)) {
			t.Errorf("%d are not the same", n)
		}
		for other := range 7 {
			if got := sess.Same(l, some(other)); got != (n == other) {
				t.Errorf("%d and %d are the same: %v", n, other, got)
			}
		}
		for at := range n {
			for i, change := range changes() {
				x := with(l, at, change)
				if sess.Same(l, x) || sess.Same(x, l) {
					t.Errorf("change %d at %d of %d is not seen", i, at, n)
				}
			}
			for other := range at {
				x := slices.Clone(l)
				x[at], x[other] = x[other], x[at]
				if sess.Same(l, x) {
					t.Errorf("%d and %d of %d may not change places", at, other, n)
				}
			}
		}
	}
	if !sess.Same(nil, []api.Sess{}) || !sess.Same([]api.Sess{}, nil) || sess.Same(nil, make([]api.Sess, 1)) {
		t.Error("none and none are the same, none and one are not")
	}
}

// P18.1: the first one of a Draw is found, and dropped, also of sessions that may not be.
func TestFindDrop(t *testing.T) {
	draws := []uint64{0, 1, 2, math.MaxUint64, 1 << 32}
	for size := range 6 {
		all := 1
		for range size {
			all *= len(draws)
		}
		for n := range all {
			l := make([]api.Sess, size)
			for i := range l {
				l[i] = open(draws[n%len(draws)], uint64(i), 9)
				n /= len(draws)
			}
			told(t, l, draws...)
			told(t, l, 3, 1<<32+1, 1<<63, math.MaxUint32, math.MaxUint64-1)
		}
	}
	for n := range 300 {
		told(t, some(n), uint64(10*n), uint64(10*n-10), uint64(5*n), 1)
	}
}

// P18.1: without the first one of a Draw, those of that Draw behind it stay; nothing else of any of them is asked for.
func TestDropAny(t *testing.T) {
	l := []api.Sess{{Draw: 1, Last: -1}, {Draw: 2, User: 1000}, {Draw: 1, Count: 3}, {Draw: 2}, {Draw: 3}, {Draw: 1, Last: math.MaxInt}}
	for range 3 {
		told(t, l, 1, 2, 3, 4)
		l, _ = sess.Drop(l, 1)
	}
	if !same(l, []api.Sess{{Draw: 2, User: 1000}, {Draw: 2}, {Draw: 3}}) {
		t.Errorf("%+v is left", l)
	}
	if got, is := sess.Drop(nil, 0); is || len(got) != 0 {
		t.Errorf("of none, %+v is left", got)
	}
}

// P18.1: late is what was used last idle ticks ago, or more.
func TestLate(t *testing.T) {
	for idle := -2; idle <= 12; idle++ {
		for now := -2; now <= 30; now++ {
			for last := -3; last <= 33; last++ {
				want := idle >= 1 && now >= 0 && last >= 0 && now-last >= idle
				if got := sess.Late(begun(1, last), idle, now); got != want {
					t.Errorf("of %d, idle %d, at %d it is late: %v", last, idle, now, got)
				}
			}
		}
	}
	numbers := wide()
	for _, n := range []int{1 << 20, 1 << 30} {
		for near := -3; near <= 3; near++ {
			numbers = append(numbers, n+near, n-1<<20+near, n/2+near)
		}
	}
	for _, idle := range numbers {
		for _, now := range numbers {
			for _, last := range append([]int{now - idle - 1, now - idle, now - idle + 1}, numbers...) {
				if got := sess.Late(open(1, 1, last), idle, now); got != late(begun(1, last), idle, now) {
					t.Errorf("of %d, idle %d, at %d it is late: %v", last, idle, now, got)
				}
			}
		}
	}
}

// P18.1: what else a session is does not matter for that, though it may not be.
func TestLateAny(t *testing.T) {
	for i, x := range []api.Sess{{}, {User: -1}, {User: 256}, {Epoch: -1}, {Epoch: 1<<30 + 1}, {Count: 4}, {Open: true}, {Draw: math.MaxUint64, Open: true, Count: math.MaxUint64}} {
		x.Last = 5
		if sess.Late(x, 10, 14) || !sess.Late(x, 10, 15) {
			t.Errorf("%d: %+v", i, x)
		}
	}
}

// P18.2: answers that are written out, of sessions that a call finds at each place.
func TestPlaces(t *testing.T) {
	a, b, c, d := begun(0, 5), open(1, 7, 6), begun(2, 7), open(3, 9, 8)
	l := []api.Sess{a, b, c, d}
	is(t, api.OK, open(0, 0, 9), b, c, d)(sess.Prove(l, 0, 10, 9))
	is(t, api.ErrThere, l...)(sess.Prove(l, 1, 10, 9))
	is(t, api.OK, a, b, open(2, 0, 9), d)(sess.Prove(l, 2, 10, 9))
	is(t, api.ErrThere, l...)(sess.Prove(l, 3, 10, 9))
	is(t, api.ErrNone, l...)(sess.Prove(l, 4, 10, 9))
	is(t, api.ErrNone, l...)(sess.Use(l, 0, 10, 10, 9))
	is(t, api.OK, a, open(1, 10, 9), c, d)(sess.Use(l, 1, 10, 10, 9))
	is(t, api.ErrNone, l...)(sess.Use(l, 2, 10, 10, 9))
	is(t, api.OK, a, b, c, open(3, 10, 9))(sess.Use(l, 3, 10, 10, 9))
	is(t, api.ErrNone, l...)(sess.Use(l, 4, 10, 10, 9))
	is(t, api.ErrLate, b, c, d)(sess.Prove(l, 0, 10, 15))
	is(t, api.ErrLate, a, c, d)(sess.Prove(l, 1, 10, 16))
	is(t, api.ErrLate, a, b, d)(sess.Prove(l, 2, 10, 17))
	is(t, api.ErrLate, a, b, c)(sess.Prove(l, 3, 10, 18))
	is(t, api.ErrLate, a, c, d)(sess.Use(l, 1, 10, 10, 16))
	is(t, api.ErrLate, a, b, c)(sess.Use(l, 3, 10, 10, 18))
	is(t, api.ErrNone, l...)(sess.Use(l, 0, 10, 10, 15))
	is(t, api.ErrLate, a, b, c)(sess.Use(l, 3, 0, 10, 18))
	is(t, api.OK, a, c, d)(sess.Use(l, 1, math.MaxUint64, 10, 9))
	is(t, api.OK, a, b, c)(sess.Use(l, 3, math.MaxUint64, 10, 9))
}

// P18.2: there is room for 4, and for more only if some are late, all of which go.
func TestRoom(t *testing.T) {
	a, b, c, d, x := begun(0, 5), open(1, 7, 3), begun(2, 7), open(3, 9, 4), begun(8, 1<<30)
	l := []api.Sess{a, b, c, d}
	for n := range 4 {
		// As long as there is room those that are late stay.
		is(t, api.OK, append(slices.Clone(l[:n]), begun(8, 99))...)(sess.Begin(l[:n], x, 10, 99))
	}
	is(t, api.ErrFull, l...)(sess.Begin(l, x, 10, 12))
	is(t, api.OK, a, c, d, begun(8, 13))(sess.Begin(l, x, 10, 13))
	is(t, api.OK, a, c, begun(8, 14))(sess.Begin(l, x, 10, 14))
	is(t, api.OK, c, begun(8, 15))(sess.Begin(l, x, 10, 15))
	is(t, api.OK, c, begun(8, 16))(sess.Begin(l, x, 10, 16))
	is(t, api.OK, begun(8, 17))(sess.Begin(l, x, 10, 17))
	// One that is there is there, even if it is late.
	for i := range l {
		is(t, api.ErrThere, l...)(sess.Begin(l, begun(uint64(i), 0), 10, 99))
	}
	for n := range 16 {
		// Each bit tells of one whether it is late.
		for i := range l {
			l[i].Last = 50 - 10*(n>>i&1)
		}
		held(t, l, call{kind: begins, x: x, idle: 10, now: 50})
	}
}

// P18.2: what begins must be one that may be, and is not Open.
func TestBeginWrong(t *testing.T) {
	var all []api.Sess
	for _, n := range wide() {
		for _, change := range []func(x *api.Sess){
			func(x *api.Sess) { x.User = n },
			func(x *api.Sess) { x.Epoch = n },
			func(x *api.Sess) { x.Last = n },
			func(x *api.Sess) { x.Count = uint64(n) },
			func(x *api.Sess) { x.Open, x.Count = true, uint64(n) },
			func(x *api.Sess) { x.Draw = uint64(n) },
			func(x *api.Sess) { x.Cn = uint64(n) },
		} {
			all = append(all, with([]api.Sess{begun(77, 3)}, 0, change)[0])
		}
	}
	all = append(all, api.Sess{}, api.Sess{User: 255, Epoch: 1 << 30, Draw: math.MaxUint64, Last: 1 << 30}, api.Sess{User: 1, Draw: 20}, open(77, 0, 3), open(20, 0, 3))
	for _, x := range all {
		for n := range 6 {
			held(t, some(n), call{kind: begins, x: x, idle: 10, now: 25})
			held(t, some(n), call{kind: begins, x: x, idle: 10, now: 99})
		}
	}
}

// P18.2: times must be such as may be, at all of their edges, whatever else is right or wrong.
func TestTimes(t *testing.T) {
	numbers := wide()
	for _, idle := range numbers {
		for _, now := range numbers {
			for _, draw := range []uint64{0, 10, 20, 30, 99} {
				held(t, some(4), call{kind: begins, x: begun(draw, 0), idle: idle, now: now})
				held(t, some(3), call{kind: begins, x: begun(draw, 0), idle: idle, now: now})
				held(t, some(4), call{kind: proves, draw: draw, idle: idle, now: now})
				held(t, some(4), call{kind: uses, draw: draw, count: 8, idle: idle, now: now})
			}
		}
	}
}

// P18.2: of sessions that may not be nothing is done, and they are answered as they are.
func TestWrong(t *testing.T) {
	var lists [][]api.Sess
	for size := 1; size <= 4; size++ {
		for at := range size {
			for _, n := range append(wide(), 256, -255) {
				lists = append(lists,
					with(some(size), at, func(x *api.Sess) { x.User = n }),
					with(some(size), at, func(x *api.Sess) { x.Epoch = n }),
					with(some(size), at, func(x *api.Sess) { x.Last = n }),
					with(some(size), at, func(x *api.Sess) { x.Open, x.Count = false, uint64(n) }),
					with(some(size), at, func(x *api.Sess) { x.Draw = uint64(n) }))
			}
		}
	}
	for n := range 9 {
		lists = append(lists, some(n))
	}
	lists = append(lists, some(300), slices.Repeat(some(1), 2), slices.Repeat(some(2), 2))
	for _, l := range lists {
		for _, now := range []int{19, 25, 31, 99} {
			for draw := uint64(0); draw <= 40; draw += 10 {
				held(t, l, call{kind: begins, x: begun(draw, 0), idle: 10, now: now})
				held(t, l, call{kind: proves, draw: draw, idle: 10, now: now})
				held(t, l, call{kind: uses, draw: draw, count: 2, idle: 10, now: now})
			}
		}
	}
}

// P18.2: a counter is taken, if it is above the last one.
func TestCounts(t *testing.T) {
	for _, was := range counts() {
		l := with(some(4), 1, func(x *api.Sess) { x.Count = was })
		for _, count := range append(counts(), was-1, was, was+1) {
			got, e := held(t, l, call{kind: uses, draw: 10, count: count, idle: 10, now: 25})
			if taken := e == api.OK; taken != (count > was) {
				t.Errorf("%d behind %d is taken: %v", count, was, taken)
			}
			if gone := len(got) == 3; gone != (count > was && count == math.MaxUint64) {
				t.Errorf("%d behind %d ends the session: %v", count, was, gone)
			}
		}
	}
	// The greatest one counts only if the session is not late, and is open.
	is(t, api.ErrLate)(sess.Use([]api.Sess{open(1, 2, 3)}, 1, math.MaxUint64, 10, 13))
	is(t, api.ErrNone, begun(1, 3))(sess.Use([]api.Sess{begun(1, 3)}, 1, math.MaxUint64, 10, 12))
	is(t, api.ErrCount, open(1, math.MaxUint64, 3))(sess.Use([]api.Sess{open(1, math.MaxUint64, 3)}, 1, math.MaxUint64, 10, 12))
}

// P18.2: all of a session but what the call tells stays, and of one that begins, too.
func TestParts(t *testing.T) {
	full := api.Sess{User: 201, Epoch: 1 << 29, Draw: 1<<63 + 5, Cn: 1<<62 + 9, Last: 12}
	for i := range full.Key {
		full.Key[i] = byte(200 - i)
	}
	x := full
	l, e := sess.Begin(some(2), full, 10, 17)
	x.Last = 17
	is(t, api.OK, append(some(2), x)...)(l, e)
	l, e = sess.Prove(l, full.Draw, 10, 18)
	x.Open, x.Last = true, 18
	is(t, api.OK, append(some(2), x)...)(l, e)
	l, e = sess.Use(l, full.Draw, 1<<40, 10, 19)
	x.Count, x.Last = 1<<40, 19
	is(t, api.OK, append(some(2), x)...)(l, e)
	// Ticks begin anew at 0, behind a start: what was used later than now is not late.
	l, e = sess.Use(l, full.Draw, 1<<40+1, 10, 0)
	x.Count, x.Last = 1<<40+1, 0
	is(t, api.OK, append(some(2), x)...)(l, e)
}

// kinds are sessions of one Draw, of all that matters at tick 20 and idle 10: open or not, late or not, used later than now, and counters.
func kinds(draw uint64) []api.Sess {
	var l []api.Sess
	for _, last := range []int{9, 10, 11, 25} {
		l = append(l, begun(draw, last), open(draw, 0, last), open(draw, 5, last))
	}
	return l
}

// everyList hands on all lists of up to so many sessions, of three Draws.
func everyList(most int, each func(l []api.Sess)) {
	var all []api.Sess
	for draw := uint64(1); draw <= 3; draw++ {
		all = append(all, kinds(draw)...)
	}
	var grow func(l []api.Sess)
	grow = func(l []api.Sess) {
		each(l)
		for _, x := range all {
			if len(l) < most {
				grow(append(slices.Clone(l), x))
			}
		}
	}
	grow(nil)
}

// P18.1, P18.2: all short lists of sessions, also of such as may not be, with all calls.
func TestShort(t *testing.T) {
	var asks []call
	for draw := uint64(1); draw <= 4; draw++ {
		asks = append(asks,
			call{kind: begins, x: begun(draw, 3), idle: 10, now: 20},
			call{kind: begins, x: open(draw, 0, 3), idle: 10, now: 20},
			call{kind: proves, draw: draw, idle: 10, now: 20})
		for _, count := range []uint64{0, 1, 5, 6, math.MaxUint64} {
			asks = append(asks, call{kind: uses, draw: draw, count: count, idle: 10, now: 20})
		}
	}
	everyList(2, func(l []api.Sess) {
		told(t, l, 1, 2, 3, 4)
		for _, c := range asks {
			held(t, l, c)
		}
	})
}

// drawn are sessions by chance, most of which may be.
func drawn(chance *rand.Rand) []api.Sess {
	draws := chance.Perm(6)
	l := make([]api.Sess, chance.Intn(5))
	for i := range l {
		l[i] = kinds(uint64(draws[i]))[chance.Intn(12)]
	}
	if len(l) > 0 && chance.Intn(8) == 0 {
		changes()[chance.Intn(4)](&l[chance.Intn(len(l))])
	}
	return l
}

// ask is one by chance.
func ask(chance *rand.Rand, idle, now int) call {
	draw := uint64(chance.Intn(6))
	c := call{kind: chance.Intn(calls), x: begun(draw, chance.Intn(40)), draw: draw, count: uint64(chance.Intn(9)), idle: idle, now: now}
	if chance.Intn(10) == 0 {
		c.count = math.MaxUint64 - c.count%3
	}
	if chance.Intn(20) == 0 {
		changes()[chance.Intn(4)](&c.x)
	}
	return c
}

// P18.2: lists of up to 4, by chance.
func TestSome(t *testing.T) {
	chance := rand.New(rand.NewSource(18))
	for range 60000 {
		l := drawn(chance)
		told(t, l, uint64(chance.Intn(6)))
		held(t, l, ask(chance, chance.Intn(14), chance.Intn(45)-1))
	}
}

// P18.2, R2: where several errors would fit, the first one that the chapter names is told.
func TestOrder(t *testing.T) {
	gone := []api.Sess{open(1, 5, 0), begun(2, 0), open(3, 5, 0), begun(4, 0)}
	fresh := []api.Sess{open(1, 5, 20), begun(2, 20), open(3, 5, 20), begun(4, 20)}
	wrong := with(fresh, 3, func(x *api.Sess) { x.User = 0 })
	// It may not be ahead of all else.
	is(t, api.ErrArg, wrong...)(sess.Begin(wrong, begun(1, 0), 10, 20))
	is(t, api.ErrArg, wrong...)(sess.Begin(wrong, begun(9, 0), 10, 20))
	is(t, api.ErrArg, wrong...)(sess.Prove(wrong, 9, 10, 20))
	is(t, api.ErrArg, wrong...)(sess.Prove(wrong, 1, 10, 20))
	is(t, api.ErrArg, wrong...)(sess.Prove(wrong, 2, 10, 99))
	is(t, api.ErrArg, wrong...)(sess.Use(wrong, 9, 0, 10, 20))
	is(t, api.ErrArg, wrong...)(sess.Use(wrong, 1, 0, 10, 20))
	is(t, api.ErrArg, wrong...)(sess.Use(wrong, 1, 6, 10, 99))
	is(t, api.ErrArg, fresh...)(sess.Begin(fresh, open(1, 0, 0), 10, 20))
	is(t, api.ErrArg, fresh...)(sess.Begin(fresh, open(9, 0, 0), 10, 20))
	is(t, api.ErrArg, gone...)(sess.Begin(gone, api.Sess{Draw: 1}, 10, 20))
	// One is there ahead of too many, and late ahead of open, and of its counter.
	is(t, api.ErrThere, fresh...)(sess.Begin(fresh, begun(2, 0), 10, 20))
	is(t, api.ErrLate, gone[1:]...)(sess.Prove(gone, 1, 10, 20))
	is(t, api.ErrLate, gone[1:]...)(sess.Use(gone, 1, 5, 10, 20))
	is(t, api.ErrNone, gone...)(sess.Use(gone, 2, 0, 10, 20))
	is(t, api.ErrNone, gone...)(sess.Use(gone, 9, 0, 10, 20))
	is(t, api.ErrNone, gone...)(sess.Prove(gone, 9, 10, 20))
}

// life is what happened to sessions: which counters each one took since it began.
type life struct {
	l    []api.Sess
	took map[uint64][]uint64
}

// step asks for one thing, and holds what comes of it against P18.3.
func (x *life) step(t *testing.T, c call) {
	t.Helper()
	was := x.l
	then, e := held(t, was, c)
	if !sess.May(then) {
		t.Fatalf("%+v of %+v makes what may not be: %+v", c, was, then)
	}
	of := c.draw
	if c.kind == begins {
		of = c.x.Draw
	}
	for _, o := range was {
		at := sess.Find(then, o.Draw)
		if o.Draw == of {
			continue
		}
		forRoom := c.kind == begins && e == api.OK && len(was) == 4 && sess.Late(o, c.idle, c.now)
		if forRoom != (at < 0) || at >= 0 && then[at] != o {
			t.Errorf("%+v of %+v makes of another one %+v", c, was, then)
		}
	}
	x.counted(t, c, e, of)
	x.l = then
}

// counted holds a counter that was taken against those that were.
func (x *life) counted(t *testing.T, c call, e api.Errno, of uint64) {
	t.Helper()
	if e != api.OK || c.kind == proves {
		return
	}
	if c.kind == begins {
		x.took[of] = nil
		return
	}
	for _, n := range x.took[of] {
		if n >= c.count {
			t.Errorf("%+v: %d was taken already", c, n)
		}
	}
	x.took[of] = append(x.took[of], c.count)
}

// P18.3: what may be stays so; counters rise, and are taken once; others stay as they are, but such as are late go, if there is no room.
func TestLives(t *testing.T) {
	chance := rand.New(rand.NewSource(183))
	ended, full := 0, 0
	for range 300 {
		x := &life{took: map[uint64][]uint64{}}
		now := 0
		for range 200 {
			now += chance.Intn(4) / 3
			c := ask(chance, 10, now)
			if took := x.took[c.draw]; c.count < 9 && len(took) > 0 {
				c.count += max(took[len(took)-1], 4) - 4
			}
			if at := sess.Find(x.l, c.draw); at >= 0 && c.kind == uses && c.count == math.MaxUint64 && x.l[at].Open && !sess.Late(x.l[at], 10, now) {
				ended++
			}
			if c.kind == begins && len(x.l) == 4 {
				full++
			}
			x.step(t, c)
		}
	}
	if ended < 100 || full < 100 {
		t.Errorf("only %d ended by their counter, and %d began with no room", ended, full)
	}
}

// P18.3: what was taken is refused from then on, as is all that is no greater.
func TestOnce(t *testing.T) {
	l := some(4)
	for count := uint64(2); count < 400; count += 3 {
		then, e := sess.Use(l, 10, count, 10, 25)
		if e != api.OK {
			t.Fatalf("%d is refused with %d", count, e)
		}
		for again := range count + 1 {
			is(t, api.ErrCount, then...)(sess.Use(then, 10, again, 10, 25))
		}
		l = then
	}
	l, e := sess.Use(l, 10, math.MaxUint64, 10, 25)
	if e != api.OK || sess.Find(l, 10) != -1 || len(l) != 3 {
		t.Fatalf("at the greatest counter %+v and %d", l, e)
	}
	for _, count := range counts() {
		is(t, api.ErrNone, l...)(sess.Use(l, 10, count, 10, 25))
	}
}

// answers are all calls that answer sessions.
func answers() []func(l []api.Sess) []api.Sess {
	var all []func(l []api.Sess) []api.Sess
	for draw := uint64(0); draw <= 50; draw += 10 {
		all = append(all, func(l []api.Sess) []api.Sess {
			got, _ := sess.Drop(l, draw)
			return got
		})
		for kind := range calls {
			for _, now := range []int{-1, 25, 31, 99} {
				for _, count := range []uint64{0, 9, math.MaxUint64} {
					c := call{kind: kind, x: begun(draw, 3), draw: draw, count: count, idle: 10, now: now}
					all = append(all, func(l []api.Sess) []api.Sess {
						got, _ := c.asked(l)
						return got
					})
				}
			}
		}
	}
	return all
}

// R3: what was given stays, also what stands behind it in its memory; and what is answered shares none with it.
func TestOwn(t *testing.T) {
	for i, answer := range answers() {
		for n := range 6 {
			all := some(12)
			got := answer(all[:n])
			if !same(all, some(12)) {
				t.Errorf("answer %d changes %d that are given", i, n)
			}
			for at := range all {
				all[at] = open(99, 99, 99)
			}
			if want := answer(some(12)[:n]); !same(got, want) {
				t.Errorf("answer %d of %d changes with what was given: %+v, not %+v", i, n, got, want)
			}
			all = some(12)
			got = answer(all[:n])
			got = got[:cap(got)]
			for at := range got {
				got[at] = open(99, 99, 99)
			}
			if !same(all, some(12)) {
				t.Errorf("answer %d of %d shares memory with what was given", i, n)
			}
		}
	}
}

// R3: what tells something of sessions leaves them as they are.
func TestStays(t *testing.T) {
	for n := range 8 {
		l := some(n)
		sess.May(l)
		sess.Same(l, l)
		sess.Same(l, some(n+1))
		sess.Find(l, 10)
		if !same(l, some(n)) {
			t.Errorf("%d changed to %+v", n, l)
		}
	}
}

// R5: one question has one answer, whatever was asked ahead of it.
func TestAgain(t *testing.T) {
	chance := rand.New(rand.NewSource(185))
	for range 500 {
		l, c := drawn(chance), ask(chance, 10, 20)
		first, e := c.asked(l)
		for range 3 {
			ask(chance, 10, 20).asked(drawn(chance))
		}
		if again, f := c.asked(l); e != f || !same(first, again) {
			t.Errorf("%+v of %+v answers %+v and %d, then %+v and %d", c, l, first, e, again, f)
		}
	}
}
