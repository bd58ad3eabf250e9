package safe_test

import (
	"math"
	"math/rand"
	"slices"
	"sync"
	"testing"

	"pelican/api"
	"pelican/group"
	"pelican/lamp"
	"pelican/plan"
	"pelican/role"
	"pelican/safe"
	"pelican/stage"
)

// from tells whether a number is from one to another, with both.
func from(low, n, high int) bool { return low <= n && n <= high }

// do, all and play are what is to be answered, by the chapter's words.
func do(l []api.Plan, s api.Sig, c, arg int) (api.Sig, api.Errno) {
	if !stage.May(l, s) {
		return s, api.ErrArg
	}
	p, x := l[s.Plan], s
	var bad, unsafe bool
	switch c {
	case api.CmdHold:
		bad, unsafe = arg < 1, s.Phase != api.PhGreen || s.Stop || arg > p.Hold-s.Held
		x.Hold = arg
	case api.CmdFree:
		bad, unsafe = arg != 0, s.Hold == 0
		x.Hold = 0
	case api.CmdNext:
		bad, unsafe = !from(0, arg, len(p.S)-1), s.Phase != api.PhGreen || s.Stop || s.Want != -1 || arg == s.Stage
		x.Ask = arg
	case api.CmdPlan:
		bad, unsafe = !from(0, arg, len(l)-1), s.Stop || arg == s.Plan
		x.Want = arg
	case api.CmdRed:
		bad = arg != 0
		x.Stop, x.Hold = true, 0
	case api.CmdClear:
		bad, unsafe = arg != 0, !s.Stop || s.Phase != api.PhRed
		x.Stop = false
	default:
		bad = true
	}
	switch {
	case bad:
		return s, api.ErrArg
	case unsafe:
		return s, api.ErrUnsafe
	}
	return x, api.OK
}

func all(l []api.Plan, s api.Sig, asks []api.Ask) (api.Sig, []api.Errno) {
	var told []api.Errno
	for _, ask := range asks {
		x, e := do(l, s, ask.Cmd, ask.Arg)
		s, told = x, append(told, e)
	}
	return s, told
}

func play(l []api.Plan, s api.Sig, asks []api.Ask) (api.Sig, [][]int) {
	var rows [][]int
	for _, ask := range asks {
		if ask.Cmd == -1 {
			s = stage.Tick(l, s)
			rows = append(rows, stage.Lamps(l, s))
		} else {
			s, _ = do(l, s, ask.Cmd, ask.Arg)
		}
	}
	return s, rows
}

// one is the plan of the document's first example.
func one() api.Plan {
	return api.Plan{M: []int{2, 1}, S: []api.Stage{{G: 1, Min: 5, Max: 9}, {G: 2, Min: 7, Max: 9}}, Amber: 3, Red: 2, Hold: 4}
}

// short has stages that are soon over, so that all its machines can be looked at.
func short() api.Plan {
	return api.Plan{M: []int{2, 1}, S: []api.Stage{{G: 1, Min: 2, Max: 3}, {G: 2, Min: 1, Max: 1}}, Amber: 2, Red: 1, Hold: 2}
}

// other and last may stand in one list with short.
func other() api.Plan {
	return api.Plan{M: []int{0, 0}, S: []api.Stage{{G: 3, Min: 1, Max: 2}, {G: 1, Min: 2, Max: 2}, {G: 2, Min: 1, Max: 3}}, Amber: 1, Red: 2, Hold: 0}
}

func last() api.Plan {
	return api.Plan{M: []int{2, 1}, S: []api.Stage{{G: 2, Min: 3, Max: 3}, {G: 1, Min: 1, Max: 2}}, Amber: 3, Red: 3, Hold: 1}
}

// great has all as long as may be, and as many stages as may be.
func great() api.Plan {
	return api.Plan{M: []int{2, 1, 0, 0, 0, 0, 0, 0}, S: slices.Repeat([]api.Stage{{G: 0xfd, Min: 200, Max: 200}, {G: 0x02, Min: 1, Max: 200}}, 3), Amber: 200, Red: 200, Hold: 300}
}

// lists are such of plans that fit, of one to three.
func lists() [][]api.Plan {
	return [][]api.Plan{{short()}, {other()}, {last()}, {one()}, {short(), other()}, {short(), other(), last()}, {great()}, {great(), great(), great()}}
}

// wrong are lists of plans that do not fit, though some of their plans do.
func wrong() [][]api.Plan {
	l := [][]api.Plan{nil, {}, {{}}, {short(), {}}, {short(), great()}, {short(), short(), great()}, {short(), short(), short(), short()}}
	for _, change := range []func(p *api.Plan){
		func(p *api.Plan) { p.M = nil },
		func(p *api.Plan) { p.M[0] = 3 },
		func(p *api.Plan) { p.S = p.S[:1] },
		func(p *api.Plan) { p.S = slices.Repeat(p.S, 4) },
		func(p *api.Plan) { p.S[1].G = 3 },
		func(p *api.Plan) { p.S[0].Min = 0 },
		func(p *api.Plan) { p.S[0].Max = 201 },
		func(p *api.Plan) { p.Amber = 0 },
		func(p *api.Plan) { p.Red = 201 },
		func(p *api.Plan) { p.Hold = -1 },
		func(p *api.Plan) { p.Hold = 301 },
	} {
		p := short()
		change(&p)
		l = append(l, []api.Plan{p}, []api.Plan{short(), p}, []api.Plan{p, short()})
	}
	return l
}

// green is a machine whose first stage is green, and was for so many ticks; amber and red are such as were that for none.
func green(ticks int) api.Sig { return api.Sig{T: ticks, Ask: -1, Want: -1} }

func amber() api.Sig { return api.Sig{Next: 1, Phase: api.PhAmber, Ask: -1, Want: -1} }

func red() api.Sig { return api.Sig{Next: 1, Phase: api.PhRed, Ask: -1, Want: -1} }

// with is a machine with a change.
func with(s api.Sig, change func(s *api.Sig)) api.Sig {
	change(&s)
	return s
}

func stop(s *api.Sig) { s.Stop = true }

// fields are all the numbers of a machine.
func fields(s *api.Sig) []*int {
	return []*int{&s.Plan, &s.Stage, &s.Next, &s.Phase, &s.T, &s.Hold, &s.Held, &s.Ask, &s.Want}
}

// wide are numbers at the edges of all kinds of integers, and such as a shorter one would take for a small one.
func wide() []int {
	var l []int
	for _, bits := range []int{8, 9, 15, 16, 31, 32, 62} {
		for low := -1; low <= 3; low++ {
			l = append(l, 1<<bits+low, -1<<bits+low)
		}
	}
	for near := range 5 {
		l = append(l, math.MinInt+near, math.MaxInt-near, -2-near, 499+near)
	}
	return l
}

// turning are the commands that turn, still are some that do not.
func turning() []int {
	return []int{api.CmdHold, api.CmdFree, api.CmdNext, api.CmdPlan, api.CmdRed, api.CmdClear}
}

func still() []int {
	return append(wide(), api.CmdGet, api.CmdClose, api.Cmds, api.Cmds+1, -1, -2)
}

// own are plans with memory of their own.
func own(l []api.Plan) []api.Plan {
	l = slices.Clone(l)
	for i := range l {
		l[i].M, l[i].S = slices.Clone(l[i].M), slices.Clone(l[i].S)
	}
	return l
}

func same(a, b []api.Plan) bool { return slices.EqualFunc(a, b, plan.Same) }

func sameRows(a, b [][]int) bool { return slices.EqualFunc(a, b, slices.Equal[[]int]) }

// done asks for one thing, and answers what comes of it.
func done(t *testing.T, l []api.Plan, s api.Sig, c, arg int) (api.Sig, api.Errno) {
	t.Helper()
	got, e := safe.Do(l, s, c, arg)
	want, wanted := do(l, s, c, arg)
	if got != want || e != wanted {
		t.Errorf("%v, %+v: %d of %d answers %+v and %d, not %+v and %d", l, s, c, arg, got, e, want, wanted)
	}
	return got, e
}

// kindly asks for one thing of a machine that may be: it still may be, and shows what it showed.
func kindly(t *testing.T, l []api.Plan, s api.Sig, c, arg int) api.Sig {
	t.Helper()
	got, _ := done(t, l, s, c, arg)
	if !stage.May(l, got) {
		t.Errorf("%v, %+v may be no more behind %d of %d: %+v", l, s, c, arg, got)
	}
	if !slices.Equal(stage.Lamps(l, got), stage.Lamps(l, s)) {
		t.Errorf("%v, %+v shows something else behind %d of %d", l, s, c, arg)
	}
	if got.Plan != s.Plan || got.Stage != s.Stage || got.Next != s.Next || got.Phase != s.Phase || got.T != s.T || got.Held != s.Held {
		t.Errorf("%v, %+v goes on to %+v by %d of %d", l, s, got, c, arg)
	}
	return got
}

// told is what one command answers, of each of several arguments.
func told(t *testing.T, l []api.Plan, s api.Sig, c int, args ...int) []api.Errno {
	t.Helper()
	var errs []api.Errno
	for _, arg := range args {
		_, e := done(t, l, s, c, arg)
		errs = append(errs, e)
	}
	return errs
}

// refused asks all of a machine that may not be.
func refused(t *testing.T, l []api.Plan, s api.Sig) {
	t.Helper()
	var asks []api.Ask
	for c := -1; c <= api.Cmds; c++ {
		for arg := range 2 {
			asks = append(asks, api.Ask{Cmd: c, Arg: arg})
			if x, e := safe.Do(l, s, c, arg); x != s || e != api.ErrArg {
				t.Errorf("%v, %+v: %d of %d answers %+v and %d", l, s, c, arg, x, e)
			}
		}
	}
	x, errs := safe.All(l, s, asks)
	if x != s || !slices.Equal(errs, slices.Repeat([]api.Errno{api.ErrArg}, len(asks))) {
		t.Errorf("%v, %+v: all answer %+v and %v", l, s, x, errs)
	}
	// Two of the asks are ticks, behind which nothing is shown.
	x, rows := safe.Play(l, s, asks)
	if x != s || !sameRows(rows, [][]int{nil, nil}) {
		t.Errorf("%v, %+v: a play answers %+v and %v", l, s, x, rows)
	}
}

// played asks for all and for a play of the same, and answers what is shown.
func played(t *testing.T, l []api.Plan, s api.Sig, asks []api.Ask) (api.Sig, string) {
	t.Helper()
	was, were := own(l), slices.Clone(asks)
	got, errs := safe.All(l, s, asks)
	want, wanted := all(was, s, were)
	if got != want || !slices.Equal(errs, wanted) {
		t.Errorf("%v, %+v: all of %v answer %+v and %v, not %+v and %v", l, s, asks, got, errs, want, wanted)
	}
	got, rows := safe.Play(l, s, asks)
	want, shown := play(was, s, were)
	if got != want || !sameRows(rows, shown) {
		t.Errorf("%v, %+v: a play of %v answers %+v and %v, not %+v and %v", l, s, asks, got, rows, want, shown)
	}
	if !same(l, was) || !slices.Equal(asks, were) {
		t.Errorf("%v and %v were %v and %v", l, asks, was, were)
	}
	text := ""
	for _, row := range rows {
		text += lamp.Text(row) + " "
	}
	return got, text
}

// ticks are so many of them.
func ticks(n int) []api.Ask { return slices.Repeat([]api.Ask{{Cmd: -1}}, n) }

// TestLimits: the numbers that the chapter names.
func TestLimits(t *testing.T) {
	if !slices.Equal(turning(), []int{1, 2, 3, 4, 5, 6}) || api.CmdGet != 0 || api.CmdClose != 7 || api.Cmds != 8 {
		t.Error("commands")
	}
	if api.OK != 0 || api.ErrArg != 1 || api.ErrUnsafe != 11 {
		t.Error("errors")
	}
	if api.PhGreen != 0 || api.PhAmber != 1 || api.PhRed != 2 || api.MaxHold != 300 {
		t.Error("phases")
	}
}

// TestExample: P17.1 to P17.3, the chapter's example: a stage is held for 4 ticks, of Hold 4, and for no more.
func TestExample(t *testing.T) {
	l := []api.Plan{one()}
	s, shown := played(t, l, stage.New(), ticks(2))
	if s != green(0) || shown != "rr gr " {
		t.Errorf("%+v %s", s, shown)
	}
	hold := []api.Ask{{Cmd: api.CmdHold, Arg: 4}}
	s, shown = played(t, l, s, append(hold, ticks(4)...))
	if want := (api.Sig{T: 4, Held: 4, Ask: -1, Want: -1}); s != want || shown != "gr gr gr gr " {
		t.Errorf("%+v %s", s, shown)
	}
	if x, e := safe.Do(l, s, api.CmdHold, 1); x != s || e != api.ErrUnsafe {
		t.Errorf("%+v %d", x, e)
	}
	// It is green for its Max all the same.
	if s, shown = played(t, l, s, append(hold, ticks(5)...)); s.Phase != api.PhAmber || shown != "gr gr gr gr ar " {
		t.Errorf("%+v %s", s, shown)
	}
}

// TestStill: P17.1, what does not turn is done by none, whatever its argument.
func TestStill(t *testing.T) {
	l := []api.Plan{short(), other()}
	for _, c := range still() {
		if role.Turns(c) {
			t.Errorf("%d turns", c)
		}
		for _, s := range []api.Sig{stage.New(), green(0), with(green(1), func(s *api.Sig) { s.Hold = 1 }), amber(), with(red(), stop)} {
			for _, arg := range []int{-1, 0, 1, 2, 3, math.MinInt, math.MaxInt, c} {
				if x, e := done(t, l, s, c, arg); x != s || e != api.ErrArg {
					t.Errorf("%+v: %d of %d answers %+v and %d", s, c, arg, x, e)
				}
			}
		}
	}
	for _, c := range turning() {
		if !role.Turns(c) {
			t.Errorf("%d does not turn", c)
		}
	}
}

// TestHold: P17.1, a green stage is held for as many ticks as its plan leaves, from 1 on.
func TestHold(t *testing.T) {
	l := []api.Plan{one(), last()}
	for held := range 5 {
		for was := range 5 - held {
			s := with(green(held), func(s *api.Sig) { s.Held, s.Hold, s.Ask, s.Want = held, was, 1, 1 })
			for arg := -2; arg < 8; arg++ {
				x, e := done(t, l, s, api.CmdHold, arg)
				switch want := with(s, func(s *api.Sig) { s.Hold = arg }); {
				case arg < 1:
					if x != s || e != api.ErrArg {
						t.Errorf("%+v held for %d: %+v %d", s, arg, x, e)
					}
				case held+arg > 4:
					if x != s || e != api.ErrUnsafe {
						t.Errorf("%+v held for %d: %+v %d", s, arg, x, e)
					}
				case x != want || e != api.OK:
					t.Errorf("%+v held for %d: %+v %d", s, arg, x, e)
				}
			}
		}
	}
	// What is asked for is the machine's own plan's.
	if got := told(t, l, with(green(0), func(s *api.Sig) { s.Plan = 1 }), api.CmdHold, 0, 1, 2, 4); !slices.Equal(got, []api.Errno{api.ErrArg, api.OK, api.ErrUnsafe, api.ErrUnsafe}) {
		t.Error(got)
	}
	for _, s := range []api.Sig{amber(), red(), with(green(0), stop), with(red(), stop), with(amber(), stop), stage.New()} {
		if got := told(t, l, s, api.CmdHold, -1, 0, 1, 4, 5); !slices.Equal(got, []api.Errno{api.ErrArg, api.ErrArg, api.ErrUnsafe, api.ErrUnsafe, api.ErrUnsafe}) {
			t.Errorf("%+v: %v", s, got)
		}
	}
	// A plan whose stages are never held.
	if got := told(t, []api.Plan{other()}, green(0), api.CmdHold, -1, 0, 1, 2); !slices.Equal(got, []api.Errno{api.ErrArg, api.ErrArg, api.ErrUnsafe, api.ErrUnsafe}) {
		t.Error(got)
	}
}

// TestFree: P17.1, a stage that is held is held no longer, whatever else is asked for.
func TestFree(t *testing.T) {
	l := []api.Plan{one(), last()}
	for hold := range 4 {
		for held := range 2 {
			for at := range 9 {
				s := with(green(1), func(s *api.Sig) { s.Hold, s.Held, s.Ask, s.Want = hold, held, at%3-1, at/3-1 })
				x, e := done(t, l, s, api.CmdFree, 0)
				if want := with(s, func(s *api.Sig) { s.Hold = 0 }); x != want || (e == api.OK) != (hold > 0) || e != api.OK && e != api.ErrUnsafe {
					t.Errorf("%+v becomes %+v, %d", s, x, e)
				}
				for _, arg := range append(wide(), -1, 1, 2, hold+1) {
					if x, e := done(t, l, s, api.CmdFree, arg); x != s || e != api.ErrArg {
						t.Errorf("%+v, %d becomes %+v, %d", s, arg, x, e)
					}
				}
			}
		}
	}
	for _, s := range []api.Sig{amber(), red(), with(green(0), stop), with(red(), stop)} {
		if got := told(t, l, s, api.CmdFree, 0, 1, -1); !slices.Equal(got, []api.Errno{api.ErrUnsafe, api.ErrArg, api.ErrArg}) {
			t.Errorf("%+v: %v", s, got)
		}
	}
}

// TestNext: P17.1, another stage of the machine's own plan is next, also instead of one that was asked for.
func TestNext(t *testing.T) {
	l := []api.Plan{short(), other()}
	for now := range 3 {
		for was := -1; was < 3; was++ {
			s := api.Sig{Plan: 1, Stage: now, Next: 1, T: 1, Ask: was, Want: -1}
			for arg := range 3 {
				x, e := done(t, l, s, api.CmdNext, arg)
				if now == arg {
					if x != s || e != api.ErrUnsafe {
						t.Errorf("%+v, %d becomes %+v, %d", s, arg, x, e)
					}
				} else if want := with(s, func(s *api.Sig) { s.Ask = arg }); x != want || e != api.OK {
					t.Errorf("%+v, %d becomes %+v, %d", s, arg, x, e)
				}
			}
		}
	}
	// Stage 2 is one of another plan.
	if got := told(t, l, green(1), api.CmdNext, -1, 0, 1, 2, 3); !slices.Equal(got, []api.Errno{api.ErrArg, api.ErrUnsafe, api.OK, api.ErrArg, api.ErrArg}) {
		t.Error(got)
	}
	if got := told(t, []api.Plan{great()}, green(1), api.CmdNext, 5, 6); !slices.Equal(got, []api.Errno{api.OK, api.ErrArg}) {
		t.Error(got)
	}
	for _, s := range []api.Sig{amber(), red(), with(green(1), stop), with(green(1), func(s *api.Sig) { s.Want = 0 }), with(green(1), func(s *api.Sig) { s.Want = 1 })} {
		if got := told(t, l, s, api.CmdNext, -1, 0, 1, 2); !slices.Equal(got, []api.Errno{api.ErrArg, api.ErrUnsafe, api.ErrUnsafe, api.ErrArg}) {
			t.Errorf("%+v: %v", s, got)
		}
	}
	// One that is held may go on to another one.
	if got := told(t, l, with(green(1), func(s *api.Sig) { s.Hold, s.Held = 1, 1 }), api.CmdNext, 1); got[0] != api.OK {
		t.Error(got)
	}
}

// TestPlan: P17.1, another plan is next, in any phase, also instead of one that was asked for.
func TestPlan(t *testing.T) {
	l := []api.Plan{short(), other(), last()}
	for _, s := range []api.Sig{green(1), amber(), red(), with(green(0), func(s *api.Sig) { s.Hold, s.Ask = 1, 1 })} {
		for s.Want = -1; s.Want < 3; s.Want++ {
			for arg := -2; arg < 5; arg++ {
				x, e := done(t, l, s, api.CmdPlan, arg)
				want, wanted := s, api.ErrArg
				if arg == 0 {
					wanted = api.ErrUnsafe
				} else if from(1, arg, 2) {
					want.Want, wanted = arg, api.OK
				}
				if x != want || e != wanted {
					t.Errorf("%+v, %d becomes %+v, %d", s, arg, x, e)
				}
			}
		}
		s.Want = -1
		if s.Hold = 0; s.Ask == -1 {
			if got := told(t, l, with(s, stop), api.CmdPlan, -1, 0, 1, 2, 3); !slices.Equal(got, []api.Errno{api.ErrArg, api.ErrUnsafe, api.ErrUnsafe, api.ErrUnsafe, api.ErrArg}) {
				t.Errorf("%+v: %v", s, got)
			}
		}
		if got := told(t, l[:2], s, api.CmdPlan, 0, 1, 2); !slices.Equal(got, []api.Errno{api.ErrUnsafe, api.OK, api.ErrArg}) {
			t.Errorf("%+v: %v", s, got)
		}
	}
	if got := told(t, l, api.Sig{Plan: 1, Stage: 2, Ask: -1, Want: -1}, api.CmdPlan, 0, 1, 2); !slices.Equal(got, []api.Errno{api.OK, api.ErrUnsafe, api.OK}) {
		t.Error(got)
	}
}

// TestRed: P17.1, it stops at any time, also once more, and is held no longer.
func TestRed(t *testing.T) {
	l := []api.Plan{one(), last()}
	for _, s := range []api.Sig{green(1), amber(), red(), stage.New(), with(green(1), func(s *api.Sig) { s.Ask, s.Want = 1, 1 }), with(green(2), func(s *api.Sig) { s.Hold, s.Held = 3, 1 })} {
		want := with(s, func(s *api.Sig) { s.Stop, s.Hold = true, 0 })
		for _, now := range []api.Sig{s, want} {
			if x, e := done(t, l, now, api.CmdRed, 0); x != want || e != api.OK {
				t.Errorf("%+v becomes %+v, %d", s, x, e)
			}
			for _, arg := range append(wide(), -1, 1, 2) {
				if x, e := done(t, l, now, api.CmdRed, arg); x != now || e != api.ErrArg {
					t.Errorf("%+v, %d becomes %+v, %d", s, arg, x, e)
				}
			}
		}
	}
}

// TestClear: P17.1, it goes on, if it stopped, and all is red.
func TestClear(t *testing.T) {
	l := []api.Plan{one(), last()}
	for _, s := range []api.Sig{green(1), amber(), red(), with(red(), func(s *api.Sig) { s.T, s.Want = 2, 1 })} {
		for _, now := range []api.Sig{s, with(s, stop)} {
			x, e := done(t, l, now, api.CmdClear, 0)
			if now.Stop && s.Phase == api.PhRed {
				if x != s || e != api.OK {
					t.Errorf("%+v becomes %+v, %d", now, x, e)
				}
			} else if x != now || e != api.ErrUnsafe {
				t.Errorf("%+v becomes %+v, %d", now, x, e)
			}
			for _, arg := range append(wide(), -1, 1, 2) {
				if x, e := done(t, l, now, api.CmdClear, arg); x != now || e != api.ErrArg {
					t.Errorf("%+v, %d becomes %+v, %d", now, arg, x, e)
				}
			}
		}
	}
}

// numbers hands on all machines of a list of small plans, each number from below what it may be to above it.
func numbers(l []api.Plan, ask func(s api.Sig)) {
	p := l[0]
	stages := len(p.S)
	lows := []int{-1, -1, 0, -1, -1, -1, -1, -2, -2}
	highs := []int{len(l), stages, stages, api.Phases, p.S[0].Max + p.Hold, p.Hold + 1, p.Hold + 1, stages, len(l)}
	var s api.Sig
	numbers := fields(&s)
	var set func(at int)
	set = func(at int) {
		if at == len(numbers) {
			for _, s.Stop = range []bool{false, true} {
				ask(s)
			}
			return
		}
		for n := lows[at]; n <= highs[at]; n++ {
			*numbers[at] = n
			set(at + 1)
		}
	}
	set(0)
}

// TestAllMachines: P17.1 and P17.3, all machines of short plans, from below what they may be to above it, and whatever is asked of them.
func TestAllMachines(t *testing.T) {
	for _, l := range [][]api.Plan{{short()}, {last()}} {
		could, asked := 0, 0
		numbers(l, func(s api.Sig) {
			if !stage.May(l, s) {
				// One command each, of which any other machine could do some.
				asked++
				if x, e := safe.Do(l, s, asked%(api.Cmds+2)-1, asked/10%3); x != s || e != api.ErrArg {
					t.Errorf("%v, %+v becomes %+v, %d", l, s, x, e)
				}
				return
			}
			could++
			for c := -1; c <= api.Cmds; c++ {
				for arg := -2; arg < 5; arg++ {
					kindly(t, l, s, c, arg)
				}
			}
		})
		if could < 400 {
			t.Errorf("%v: %d may be", l, could)
		}
	}
}

// reached are all machines that come of a new one, by what is asked of it and by ticks.
func reached(t *testing.T, l []api.Plan) []api.Sig {
	t.Helper()
	found := []api.Sig{stage.New()}
	there := map[api.Sig]bool{found[0]: true}
	add := func(s api.Sig) {
		if !there[s] {
			there[s] = true
			found = append(found, s)
		}
	}
	for i := 0; i < len(found); i++ {
		add(stage.Tick(l, found[i]))
		for c := -1; c <= api.Cmds; c++ {
			for arg := -1; arg < 7; arg++ {
				add(kindly(t, l, found[i], c, arg))
			}
		}
	}
	return found
}

// TestReached: P17.1 and P17.3, all machines that come of a new one: they may be, whatever is asked of them.
func TestReached(t *testing.T) {
	for _, l := range [][]api.Plan{{short()}, {other()}, {one()}, {short(), other()}, {short(), other(), last()}} {
		found := reached(t, l)
		seen := map[api.Errno]int{}
		for i, s := range found {
			if !stage.May(l, s) {
				t.Errorf("%v, %+v may not be", l, s)
			}
			for _, c := range turning() {
				for _, arg := range []int{0, 1, 2} {
					_, e := done(t, l, s, c, arg)
					seen[e]++
				}
				for _, arg := range wide() {
					if i%20 == 0 {
						kindly(t, l, s, c, arg)
					}
				}
			}
		}
		if len(found) < 80 || len(seen) != 3 {
			t.Errorf("%v: %d, %v", l, len(found), seen)
		}
	}
}

// TestWide: P17.1 and P17.2, machines with numbers that none may have, in each field.
func TestWide(t *testing.T) {
	l := []api.Plan{short(), other(), last()}
	for _, s := range []api.Sig{
		green(1),
		with(green(1), func(s *api.Sig) { s.Hold, s.Held, s.Ask = 1, 1, 1 }),
		{Plan: 1, Stage: 2, Next: 1, T: 1, Ask: 2, Want: 2, Stop: true},
		amber(),
		with(red(), stop),
	} {
		if !stage.May(l, s) {
			t.Errorf("%+v may not be", s)
		}
		for k := range fields(&s) {
			for _, n := range wide() {
				x := s
				*fields(&x)[k] = n
				refused(t, l, x)
			}
		}
		refused(t, l, with(s, func(s *api.Sig) { s.Held, s.Hold, s.Phase = 3, 0, api.PhGreen }))
	}
	// A machine whose stage or stop does not go with its phase.
	refused(t, l, with(amber(), func(s *api.Sig) { s.Ask = 1 }))
	refused(t, l, with(green(0), func(s *api.Sig) { s.Stop, s.Hold = true, 1 }))
	refused(t, l, with(red(), func(s *api.Sig) { s.Hold = 1 }))
}

// TestWideArgs: P17.1, arguments that wrap around, or that a shorter number would take for a small one.
func TestWideArgs(t *testing.T) {
	for _, l := range lists() {
		for _, s := range []api.Sig{stage.New(), green(0), with(green(0), stop), amber(), red(), with(red(), stop)} {
			if !stage.May(l, s) {
				t.Errorf("%v, %+v may not be", l, s)
			}
			for _, c := range turning() {
				for _, arg := range wide() {
					if x, e := done(t, l, s, c, arg); x != s && (c != api.CmdHold || arg > 300) || e != api.ErrArg && c != api.CmdHold {
						t.Errorf("%v, %+v: %d of %d answers %+v, %d", l, s, c, arg, x, e)
					}
				}
			}
		}
	}
	// What was held must not make room by wrapping around.
	l := []api.Plan{great()}
	s := with(green(300), func(s *api.Sig) { s.Held = 299 })
	if got := told(t, l, s, api.CmdHold, math.MinInt, math.MinInt+299, 0, 1, 2, 300, math.MaxInt-299, math.MaxInt-298, math.MaxInt); !slices.Equal(got, []api.Errno{1, 1, 1, 0, 11, 11, 11, 11, 11}) {
		t.Error(got)
	}
}

// TestWrongPlans: P17.1 and P17.2, lists of plans that do not fit, also where the machine's own plan does.
func TestWrongPlans(t *testing.T) {
	for _, l := range wrong() {
		if plan.All(l) {
			t.Error(l)
		}
		for at := range 3 {
			for _, s := range []api.Sig{stage.New(), green(0), with(green(0), func(s *api.Sig) { s.Hold = 1 }), amber(), with(red(), stop), {}} {
				s.Plan = at
				refused(t, l, s)
			}
		}
	}
}

// TestGreat: P17.1 and P17.3, a plan whose stages may be held for as long as any may be.
func TestGreat(t *testing.T) {
	l := []api.Plan{great(), great()}
	if got := told(t, l, green(0), api.CmdHold, 255, 256, 299, 300, 301, 1<<16+1); !slices.Equal(got, []api.Errno{0, 0, 0, 0, 11, 11}) {
		t.Error(got)
	}
	s, _ := played(t, l, green(0), append([]api.Ask{{Cmd: api.CmdHold, Arg: 300}}, ticks(250)...))
	if want := with(green(250), func(s *api.Sig) { s.Hold, s.Held = 50, 250 }); s != want {
		t.Errorf("%+v", s)
	}
	if got := told(t, l, s, api.CmdHold, 49, 50, 51, 300); !slices.Equal(got, []api.Errno{0, 0, 11, 11}) {
		t.Error(got)
	}
	// Freed, and held again: all of it together is no more than 300.
	s, _ = played(t, l, green(0), append([]api.Ask{{Cmd: api.CmdHold, Arg: 300}}, ticks(100)...))
	s, _ = played(t, l, s, append([]api.Ask{{Cmd: api.CmdFree}}, ticks(50)...))
	if want := with(green(150), func(s *api.Sig) { s.Held = 100 }); s != want {
		t.Errorf("%+v", s)
	}
	if got := told(t, l, s, api.CmdHold, 200, 201); !slices.Equal(got, []api.Errno{0, 11}) {
		t.Error(got)
	}
}

// TestAll: P17.2, each is done behind the one ahead, and its error told; a tick is none of them.
func TestAll(t *testing.T) {
	l := []api.Plan{short(), other()}
	asks := []api.Ask{
		{Cmd: api.CmdHold, Arg: 1}, {Cmd: -1}, {Cmd: api.CmdHold, Arg: 2}, {Cmd: api.CmdHold, Arg: 3}, {Cmd: api.CmdNext, Arg: 1},
		{Cmd: api.CmdPlan, Arg: 1}, {Cmd: api.CmdNext, Arg: 1}, {Cmd: api.CmdGet}, {Cmd: api.CmdClose}, {Cmd: api.CmdFree},
		{Cmd: api.CmdFree}, {Cmd: api.CmdRed}, {Cmd: api.CmdPlan, Arg: 1}, {Cmd: api.CmdClear}, {Cmd: 8, Arg: 1},
	}
	s, errs := safe.All(l, green(1), asks)
	if want := (api.Sig{T: 1, Ask: 1, Want: 1, Stop: true}); s != want || !slices.Equal(errs, []api.Errno{0, 1, 0, 11, 0, 0, 11, 1, 1, 0, 11, 0, 11, 11, 1}) {
		t.Errorf("%+v %v", s, errs)
	}
	for n := range len(asks) {
		played(t, l, green(1), asks[:n])
		// What is done is done in parts as well.
		x, some := safe.All(l, green(1), asks[:n])
		y, more := safe.All(l, x, asks[n:])
		if y != s || !slices.Equal(append(some, more...), errs) {
			t.Errorf("%d: %+v", n, y)
		}
	}
	for _, none := range [][]api.Ask{nil, {}} {
		for _, x := range []api.Sig{green(1), stage.New(), {}, {Plan: 9}} {
			if got, e := safe.All(l, x, none); got != x || len(e) != 0 {
				t.Errorf("%+v becomes %+v by nothing: %v", x, got, e)
			}
			if got, rows := safe.Play(l, x, none); got != x || len(rows) != 0 {
				t.Errorf("%+v becomes %+v by nothing: %v", x, got, rows)
			}
		}
	}
}

// TestPlay: P17.2, ticks and commands one behind the other: what is shown behind the ticks alone, whatever came of commands.
func TestPlay(t *testing.T) {
	l := []api.Plan{short(), other()}
	tick := api.Ask{Cmd: -1}
	s, shown := played(t, l, stage.New(), []api.Ask{
		{Cmd: api.CmdHold, Arg: 1}, tick, {Cmd: api.CmdHold, Arg: 2}, tick, tick, {Cmd: api.CmdHold, Arg: 1}, {Cmd: api.CmdNext, Arg: 1}, tick,
		{Cmd: 9}, tick, {Cmd: api.CmdRed, Arg: 0}, tick, tick, tick, {Cmd: api.CmdClear}, {Cmd: api.CmdPlan, Arg: 1}, tick, {Cmd: api.CmdRed, Arg: 1},
	})
	if want := (api.Sig{Plan: 1, Ask: -1, Want: -1}); s != want || shown != "gr gr gr ar ar rr rr rr gg " {
		t.Errorf("%+v %s", s, shown)
	}
	// A tick is one whatever its argument.
	s, shown = played(t, l, green(0), []api.Ask{{Cmd: -1, Arg: 7}, {Cmd: -1, Arg: -1}, {Cmd: -2}, {Cmd: math.MaxInt}, {Cmd: math.MinInt}})
	if s != green(2) || shown != "gr gr " {
		t.Errorf("%+v %s", s, shown)
	}
	if s, shown = played(t, l, green(0), []api.Ask{{Cmd: api.CmdRed}, {Cmd: api.CmdHold, Arg: 9}}); s != with(green(0), stop) || shown != "" {
		t.Errorf("%+v %s", s, shown)
	}
	for _, l := range lists() {
		for n := range 30 {
			x, rows := stage.Run(l, stage.New(), n)
			y, same := safe.Play(l, stage.New(), ticks(n))
			if x != y || !sameRows(rows, same) {
				t.Errorf("%v: %d ticks", l, n)
			}
		}
	}
}

// drawn are plans that fit together, by chance.
func drawn(chance *rand.Rand) []api.Plan {
	l := make([]api.Plan, 1+chance.Intn(3))
	groups := 1 + chance.Intn(8)
	for i := range l {
		l[i] = drawnOf(chance, groups)
	}
	return l
}

// drawnOf is one of so many groups.
func drawnOf(chance *rand.Rand, groups int) api.Plan {
	p := api.Plan{M: make([]int, groups), Amber: 1 + chance.Intn(4), Red: 1 + chance.Intn(4), Hold: chance.Intn(6)}
	for i := range p.M {
		for j := range i {
			if chance.Intn(4) == 0 {
				p.M[i] |= 1 << j
				p.M[j] |= 1 << i
			}
		}
	}
	for !plan.Fit(p) {
		p.S = make([]api.Stage, 2+chance.Intn(5))
		sets := group.Sets(p.M)
		for k := range p.S {
			low := 1 + chance.Intn(6)
			p.S[k] = api.Stage{G: sets[chance.Intn(len(sets))], Min: low, Max: low + chance.Intn(6)}
		}
		// Too many may conflict for so few stages.
		if i := chance.Intn(groups); !plan.Fit(p) {
			p.M[i] = 0
			for j := range p.M {
				p.M[j] &^= 1 << i
			}
		}
	}
	return p
}

// asksOf are so many of what may be asked, by chance, and ticks.
func asksOf(chance *rand.Rand, n int) []api.Ask {
	asks := make([]api.Ask, n)
	for i := range asks {
		asks[i] = api.Ask{Cmd: chance.Intn(api.Cmds+2) - 1, Arg: chance.Intn(8) - 1}
		switch chance.Intn(4) {
		case 0:
			asks[i].Cmd = -1
		case 1:
			asks[i].Arg = 0
		}
	}
	return asks
}

// TestChance: P17.1 to P17.3, what is asked by chance, of plans by chance.
func TestChance(t *testing.T) {
	chance := rand.New(rand.NewSource(1))
	for range 2000 {
		l := drawn(chance)
		s := stage.New()
		for range 5 {
			s, _ = played(t, l, s, asksOf(chance, chance.Intn(40)))
			kindly(t, l, s, chance.Intn(api.Cmds), chance.Intn(5))
		}
		*fields(&s)[chance.Intn(9)] += chance.Intn(5) - 2
		played(t, l, s, asksOf(chance, 20))
	}
}

// TestSafe: P17.3, whatever is asked: what may be stays so, what lamps show changes by ticks alone, and no stage is held for longer than its plan lets it be.
func TestSafe(t *testing.T) {
	chance := rand.New(rand.NewSource(2))
	all, ends := 0, 0
	for range 400 {
		l := drawn(chance)
		s := stage.New()
		held, lasts := 0, 0
		for _, ask := range asksOf(chance, 600) {
			if ask.Cmd != -1 {
				s = kindly(t, l, s, ask.Cmd, ask.Arg)
				continue
			}
			was := s
			s, _ = safe.Play(l, s, []api.Ask{ask})
			if was.Phase != api.PhGreen {
				held, lasts = 0, 0
				continue
			}
			lasts++
			if was.Hold > 0 {
				held++
				all++
			}
			p := l[was.Plan]
			if held > p.Hold || lasts > p.S[was.Stage].Max+held {
				t.Errorf("%v, %+v is held for %d, and lasts for %d", l, was, held, lasts)
			}
			if s.Phase == api.PhAmber {
				ends++
				if lasts < p.S[was.Stage].Min {
					t.Errorf("%v, %+v lasts for %d", l, was, lasts)
				}
			}
		}
	}
	if all < 1000 || ends < 2000 {
		t.Errorf("%d ticks held, %d greens end", all, ends)
	}
}

// TestGreedy: P17.3, who asks at each tick that a stage be held, from the first one on or from any other one, holds it for no more than the plan's Hold.
func TestGreedy(t *testing.T) {
	for _, l := range lists() {
		p := l[0]
		for _, since := range []int{0, 1, p.S[0].Max / 2, p.S[0].Max - 1} {
			for _, most := range []int{1, 2, 1000} {
				s := green(0)
				held, lasts := 0, 0
				for s.Phase == api.PhGreen {
					for _, arg := range []int{p.Hold + 1, p.Hold, 1, p.Hold - s.Held} {
						if lasts >= since && arg <= most {
							s, _ = safe.Do(l, s, api.CmdHold, arg)
						}
					}
					held += min(s.Hold, 1)
					s = stage.Tick(l, s)
					lasts++
				}
				if held != p.Hold || lasts != max(p.S[0].Max, since+p.Hold+1) {
					t.Errorf("%v: it is held for %d, and lasts for %d", l, held, lasts)
				}
			}
		}
	}
}

// behind are plans with marks in memory behind what there is.
func behind(l []api.Plan) []api.Plan {
	all := slices.Clone(l)
	for i, p := range all {
		all[i].M = append(slices.Clone(p.M), slices.Repeat([]int{1000}, 9)...)[:len(p.M)]
		all[i].S = append(slices.Clone(p.S), slices.Repeat([]api.Stage{{G: 1000}}, 9)...)[:len(p.S)]
	}
	return append(all, slices.Repeat([]api.Plan{{Hold: 1000}}, 4)...)[:len(l)]
}

// kept tells whether plans that behind answered still are those, also in the memory behind.
func kept(l, was []api.Plan) bool {
	for _, p := range l {
		m, s := len(p.M), len(p.S)
		if !slices.Equal(p.M[:m+9][m:], slices.Repeat([]int{1000}, 9)) || !slices.Equal(p.S[:s+9][s:], slices.Repeat([]api.Stage{{G: 1000}}, 9)) {
			return false
		}
	}
	n := len(l)
	return same(l, was) && same(l[:n+4][n:], slices.Repeat([]api.Plan{{Hold: 1000}}, 4))
}

// TestOwn: R3, what is handed in stays as it was, also in the memory behind.
func TestOwn(t *testing.T) {
	chance := rand.New(rand.NewSource(3))
	for _, was := range append(lists(), wrong()...) {
		l := behind(was)
		for _, s := range []api.Sig{stage.New(), green(0), amber(), with(red(), stop), with(green(0), func(s *api.Sig) { s.Hold = 1 }), {Plan: 2}} {
			were := asksOf(chance, 30)
			asks := append(slices.Clone(were), api.Ask{Cmd: 70, Arg: 70}, api.Ask{Cmd: 80, Arg: 80})
			safe.All(l, s, asks[:30])
			safe.Play(l, s, asks[:30])
			for c := range api.Cmds {
				safe.Do(l, s, c, 0)
				safe.Do(l, s, c, 1)
			}
			if !kept(l, was) || !slices.Equal(asks[:30], were) || asks[30].Cmd != 70 || asks[31].Arg != 80 {
				t.Errorf("%v or %v is changed", was, were)
			}
		}
	}
}

// TestOwnAnswers: R3, what is answered is the caller's own, and no two rows share any memory.
func TestOwnAnswers(t *testing.T) {
	l := []api.Plan{short(), other()}
	asks := append(ticks(40), api.Ask{Cmd: api.CmdRed}, api.Ask{Cmd: api.CmdRed, Arg: 1})
	_, rows := safe.Play(l, green(0), asks)
	_, want := play(l, green(0), asks)
	for i := range rows {
		row := append(rows[i], 7, 7, 7, 7, 7, 7, 7, 7)
		rows[i][0], rows[i][1], row[0] = 7, 7, 7
		for k := i + 1; k < len(rows); k++ {
			if !slices.Equal(rows[k], want[k]) {
				t.Errorf("row %d changes row %d", i, k)
			}
		}
	}
	_, errs := safe.All(l, green(0), asks)
	_, wanted := all(l, green(0), asks)
	for i := range errs {
		errs[i] = 77
	}
	_, again := safe.All(l, green(0), asks)
	if !slices.Equal(again, wanted) || !same(l, []api.Plan{short(), other()}) || len(append(errs, 77)) != 43 {
		t.Error("an answer changes another one")
	}
	if _, again := safe.Play(l, green(0), asks); !sameRows(again, want) {
		t.Error("a play changes another one")
	}
}

// TestAgain: R5, nothing hangs on what was asked before, nor on who else asks: several ask at one time.
func TestAgain(t *testing.T) {
	chance := rand.New(rand.NewSource(4))
	lists := append(lists(), wrong()...)
	for range 20 {
		lists = append(lists, drawn(chance))
	}
	asks := asksOf(chance, 200)
	var several sync.WaitGroup
	for range 4 {
		several.Go(func() {
			for _, l := range lists {
				played(t, l, stage.New(), asks)
				played(t, l, green(0), asks)
				for c := -1; c <= api.Cmds; c++ {
					done(t, l, green(0), c, 1)
					done(t, l, with(red(), stop), c, 0)
				}
			}
		})
	}
	several.Wait()
}
