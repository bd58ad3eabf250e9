package stage_test

import (
	"math"
	"math/rand"
	"slices"
	"sync"
	"testing"

	"pelican/api"
	"pelican/group"
	"pelican/lamp"
	"pelican/plan"
	"pelican/stage"
)

// from tells whether a number is from one to another, with both.
func from(low, n, high int) bool { return low <= n && n <= high }

// may, tick, lamps and run are what is to be answered, by the chapter's words.
func may(l []api.Plan, s api.Sig) bool {
	if !plan.All(l) || !from(0, s.Plan, len(l)-1) {
		return false
	}
	p := l[s.Plan]
	last := len(p.S) - 1
	if !from(0, s.Stage, last) || !from(0, s.Next, last) || !from(-1, s.Ask, last) || !from(-1, s.Want, len(l)-1) {
		return false
	}
	if !from(0, s.Held, p.Hold) || !from(0, s.Hold, p.Hold-s.Held) {
		return false
	}
	if s.Phase == api.PhGreen {
		return s.T >= s.Held && s.T-s.Held < p.S[s.Stage].Max && (!s.Stop || s.Hold == 0)
	}
	still := s.Hold == 0 && s.Held == 0 && s.Ask == -1
	return still && (s.Phase == api.PhAmber && from(0, s.T, p.Amber-1) || s.Phase == api.PhRed && from(0, s.T, p.Red))
}

func tick(l []api.Plan, s api.Sig) api.Sig {
	if !may(l, s) {
		return s
	}
	p := l[s.Plan]
	switch s.Phase {
	case api.PhGreen:
		s.T++
		if s.Hold > 0 {
			s.Hold, s.Held = s.Hold-1, s.Held+1
			return s
		}
		if s.T < p.S[s.Stage].Min || !s.Stop && s.Ask == -1 && s.Want == -1 && s.T < p.S[s.Stage].Max {
			return s
		}
		next := s.Ask
		if next == -1 {
			next = plan.Next(p, s.Stage)
		}
		return api.Sig{Plan: s.Plan, Stage: s.Stage, Next: next, Phase: api.PhAmber, Ask: -1, Want: s.Want, Stop: s.Stop}
	case api.PhAmber:
		if s.T++; s.T == p.Amber {
			s.Phase, s.T = api.PhRed, 0
		}
		return s
	}
	if s.T < p.Red {
		s.T++
	}
	if s.T < p.Red || s.Stop {
		return s
	}
	if s.Want != -1 {
		s = api.Sig{Plan: s.Want, Ask: -1, Want: -1}
	}
	return api.Sig{Plan: s.Plan, Stage: s.Next, Next: s.Next, Phase: api.PhGreen, Ask: -1, Want: -1}
}

func lamps(l []api.Plan, s api.Sig) []int {
	if !may(l, s) {
		return nil
	}
	return lamp.Show(l[s.Plan], s.Stage, s.Phase)
}

func run(l []api.Plan, s api.Sig, n int) (api.Sig, [][]int) {
	var rows [][]int
	if !may(l, s) || !from(0, n, 2000) {
		return s, nil
	}
	for len(rows) < n {
		s = tick(l, s)
		rows = append(rows, lamps(l, s))
	}
	return s, rows
}

// one is the plan of the document's first example.
func one() api.Plan {
	return api.Plan{M: []int{2, 1}, S: []api.Stage{{G: 1, Min: 5, Max: 9}, {G: 2, Min: 7, Max: 9}}, Amber: 3, Red: 2, Hold: 4}
}

// short has stages that are soon over, so that all its machines can be looked at.
func short() api.Plan {
	return api.Plan{M: []int{2, 1}, S: []api.Stage{{G: 1, Min: 2, Max: 3}, {G: 2, Min: 1, Max: 1}}, Amber: 2, Red: 1, Hold: 2}
}

// other and last may stand in one list with short.
func other() api.Plan {
	return api.Plan{M: []int{0, 0}, S: []api.Stage{{G: 3, Min: 1, Max: 2}, {G: 1, Min: 2, Max: 2}, {G: 2, Min: 1, Max: 3}}, Amber: 1, Red: 2, Hold: 0}
}

func last() api.Plan {
	return api.Plan{M: []int{2, 1}, S: []api.Stage{{G: 2, Min: 3, Max: 3}, {G: 1, Min: 1, Max: 2}}, Amber: 3, Red: 3, Hold: 1}
}

// great has all as long as may be.
func great() api.Plan {
	return api.Plan{M: []int{2, 1, 0, 0, 0, 0, 0, 0}, S: slices.Repeat([]api.Stage{{G: 0xfd, Min: 200, Max: 200}, {G: 0x02, Min: 1, Max: 200}}, 3), Amber: 200, Red: 200, Hold: 300}
}

// lists are such of plans that fit, of one to three.
func lists() [][]api.Plan {
	return [][]api.Plan{{short()}, {other()}, {last()}, {one()}, {short(), other()}, {short(), other(), last()}, {great()}, {great(), great()}}
}

// wrong are lists of plans that do not fit, though some of their plans do.
func wrong() [][]api.Plan {
	l := [][]api.Plan{nil, {}, {{}}, {short(), {}}, {short(), great()}, {short(), short(), great()}, {short(), short(), short(), short()}}
	for _, change := range []func(p *api.Plan){
		func(p *api.Plan) { p.M = nil },
		func(p *api.Plan) { p.M[0] = 3 },
		func(p *api.Plan) { p.S = p.S[:1] },
		func(p *api.Plan) { p.S = slices.Repeat(p.S, 4) },
		func(p *api.Plan) { p.S[1].G = 3 },
		func(p *api.Plan) { p.S[1].G = 0 },
		func(p *api.Plan) { p.S[0].Min = 0 },
		func(p *api.Plan) { p.S[0].Max = 1 },
		func(p *api.Plan) { p.S[0].Max = 201 },
		func(p *api.Plan) { p.Amber = 0 },
		func(p *api.Plan) { p.Amber = 201 },
		func(p *api.Plan) { p.Red = 0 },
		func(p *api.Plan) { p.Red = 201 },
		func(p *api.Plan) { p.Hold = -1 },
		func(p *api.Plan) { p.Hold = 301 },
	} {
		p := short()
		change(&p)
		l = append(l, []api.Plan{p}, []api.Plan{short(), p}, []api.Plan{p, short()})
	}
	return l
}

// green is a machine whose first stage is green, and was for so many ticks.
func green(ticks int) api.Sig { return api.Sig{T: ticks, Ask: -1, Want: -1} }

// fields are all the numbers of a machine.
func fields(s *api.Sig) []*int {
	return []*int{&s.Plan, &s.Stage, &s.Next, &s.Phase, &s.T, &s.Hold, &s.Held, &s.Ask, &s.Want}
}

// wide are numbers at the edges of all kinds of integers, and such as a shorter one would take for a small one.
func wide() []int {
	var l []int
	for _, bits := range []int{8, 9, 15, 16, 31, 32, 62} {
		for low := -1; low <= 3; low++ {
			l = append(l, 1<<bits+low, -1<<bits+low)
		}
	}
	for near := range 5 {
		l = append(l, math.MinInt+near, math.MaxInt-near, -2-near, 499+near)
	}
	return l
}

// own are plans with memory of their own.
func own(l []api.Plan) []api.Plan {
	l = slices.Clone(l)
	for i := range l {
		l[i].M, l[i].S = slices.Clone(l[i].M), slices.Clone(l[i].S)
	}
	return l
}

func same(a, b []api.Plan) bool { return slices.EqualFunc(a, b, plan.Same) }

func sameRows(a, b [][]int) bool { return slices.EqualFunc(a, b, slices.Equal[[]int]) }

// ticked asks all of a machine but its run, and answers what a tick makes of it.
func ticked(t *testing.T, l []api.Plan, s api.Sig) api.Sig {
	t.Helper()
	is := may(l, s)
	if got := stage.May(l, s); got != is {
		t.Errorf("%v, %+v may be: %v", l, s, got)
	}
	got, want := stage.Tick(l, s), tick(l, s)
	if got != want {
		t.Errorf("%v, %+v becomes %+v, not %+v", l, s, got, want)
	}
	if stage.May(l, got) != is {
		t.Errorf("%v, %+v becomes %+v: it may be no more", l, s, got)
	}
	row := stage.Lamps(l, s)
	if !slices.Equal(row, lamps(l, s)) || is != (len(row) > 0) || is && lamp.Clash(l[s.Plan], row) {
		t.Errorf("%v, %+v shows %v", l, s, row)
	}
	return got
}

// ran asks for a machine's run, and answers what is shown behind it.
func ran(t *testing.T, l []api.Plan, s api.Sig, n int) string {
	t.Helper()
	was := own(l)
	got, rows := stage.Run(l, s, n)
	want, wanted := run(was, s, n)
	if got != want || !sameRows(rows, wanted) {
		t.Errorf("%v, %+v becomes %+v behind %d, not %+v; it shows %v, not %v", l, s, got, n, want, rows, wanted)
	}
	if !same(l, was) {
		t.Errorf("%v was %v", l, was)
	}
	text := ""
	for _, row := range rows {
		text += lamp.Text(row) + " "
	}
	return text
}

// refused asks all of a machine that may not be.
func refused(t *testing.T, l []api.Plan, s api.Sig) {
	t.Helper()
	if stage.May(l, s) || stage.Tick(l, s) != s || len(stage.Lamps(l, s)) != 0 {
		t.Errorf("%v, %+v may be", l, s)
	}
	for _, n := range []int{0, 1, 3} {
		if x, rows := stage.Run(l, s, n); x != s || len(rows) != 0 {
			t.Errorf("%v, %+v becomes %+v behind %d, and shows %v", l, s, x, n, rows)
		}
	}
}

// TestLimits: the limits and numbers that the chapter names.
func TestLimits(t *testing.T) {
	if api.MaxPlans != 3 || api.MaxStages != 6 || api.MaxSpan != 200 || api.MaxHold != 300 {
		t.Error("limits")
	}
	if api.PhGreen != 0 || api.PhAmber != 1 || api.PhRed != 2 || api.Phases != 3 {
		t.Error("phases")
	}
}

// TestNew: P16.1, a new machine is all red, and goes by any plans that fit.
func TestNew(t *testing.T) {
	s := stage.New()
	if want := (api.Sig{Phase: api.PhRed, Ask: -1, Want: -1}); s != want {
		t.Errorf("%+v", s)
	}
	for _, l := range lists() {
		if !stage.May(l, s) || !slices.Equal(stage.Lamps(l, s), make([]int, len(l[0].M))) {
			t.Errorf("%v", l)
		}
	}
}

// TestExample: P16.1 to P16.3, the chapter's example, and the first one of the document.
func TestExample(t *testing.T) {
	l := []api.Plan{one()}
	if got := ran(t, l, stage.New(), 2); got != "rr gr " {
		t.Error(got)
	}
	s, _ := stage.Run(l, stage.New(), 2)
	if s != green(0) {
		t.Errorf("%+v", s)
	}
	// The first row was shown ahead of the run.
	if got := ran(t, l, s, 14); got != "gr gr gr gr gr gr gr gr ar ar ar rr rr rg " {
		t.Error(got)
	}
	if s, _ = stage.Run(l, s, 14); s != (api.Sig{Stage: 1, Next: 1, Ask: -1, Want: -1}) {
		t.Errorf("%+v", s)
	}
	if got := ran(t, l, s, 14); got != "rg rg rg rg rg rg rg rg ra ra ra rr rr gr " {
		t.Error(got)
	}
}

// all hands on all machines of a list of small plans, each number from below what it may be to above it.
func all(l []api.Plan, ask func(s api.Sig)) {
	p := l[0]
	stages := len(p.S)
	lows := []int{-1, -1, -1, -1, -1, -1, -1, -2, -2}
	highs := []int{len(l), stages, stages, api.Phases, p.S[0].Max + p.Hold, p.Hold + 1, p.Hold + 1, stages, len(l)}
	var s api.Sig
	numbers := fields(&s)
	var set func(at int)
	set = func(at int) {
		if at == len(numbers) {
			for _, s.Stop = range []bool{false, true} {
				ask(s)
			}
			return
		}
		for n := lows[at]; n <= highs[at]; n++ {
			*numbers[at] = n
			set(at + 1)
		}
	}
	set(0)
}

// TestAll: P16.1, P16.2 and P16.4, all machines of short plans, from below what they may be to above it.
func TestAll(t *testing.T) {
	for _, l := range [][]api.Plan{{short()}, {other()}} {
		could := 0
		all(l, func(s api.Sig) {
			is := may(l, s)
			if stage.May(l, s) != is {
				t.Errorf("%v, %+v may be: %v", l, s, !is)
			}
			if is {
				ticked(t, l, s)
				could++
			}
		})
		if could < 400 {
			t.Errorf("%v: %d may be", l, could)
		}
	}
}

// reached are all machines that come of a new one, whatever is asked of it.
func reached(l []api.Plan) []api.Sig {
	found := []api.Sig{stage.New()}
	there := map[api.Sig]bool{found[0]: true}
	for i := 0; i < len(found); i++ {
		for _, s := range append(asked(l, found[i]), tick(l, found[i])) {
			if !there[s] {
				there[s] = true
				found = append(found, s)
			}
		}
	}
	return found
}

// asked is what may come of a machine by what is asked of it.
func asked(l []api.Plan, s api.Sig) []api.Sig {
	var all []api.Sig
	add := func(change func(s *api.Sig)) {
		x := s
		if change(&x); may(l, x) {
			all = append(all, x)
		}
	}
	p := l[s.Plan]
	for n := range p.Hold + 1 {
		add(func(s *api.Sig) { s.Hold = n })
	}
	for n := range p.S {
		add(func(s *api.Sig) { s.Ask = n })
	}
	for n := range l {
		add(func(s *api.Sig) { s.Want = n })
	}
	add(func(s *api.Sig) { s.Stop, s.Hold = true, 0 })
	add(func(s *api.Sig) { s.Stop = false })
	return all
}

// TestReached: P16.2 to P16.4, all machines that come of a new one: they may be, and each field of them may be another one, or not.
func TestReached(t *testing.T) {
	for _, l := range [][]api.Plan{{short()}, {other()}, {short(), other()}, {short(), other(), last()}} {
		found := reached(l)
		if len(found) < 100 {
			t.Errorf("%v: %d", l, len(found))
		}
		for i, s := range found {
			if !stage.May(l, s) {
				t.Errorf("%v, %+v may not be", l, s)
			}
			ticked(t, l, s)
			for k := range fields(&s) {
				for n := -2; n < 8; n++ {
					x := s
					*fields(&x)[k] = n
					ticked(t, l, x)
				}
			}
			if i%50 == 0 {
				ran(t, l, s, 20)
			}
		}
	}
}

// TestWide: P16.1 to P16.3, numbers that none may be, in each field.
func TestWide(t *testing.T) {
	l := []api.Plan{short(), other(), last()}
	for _, s := range []api.Sig{
		green(1),
		{Plan: 1, Stage: 2, Next: 1, T: 1, Ask: 2, Want: 2, Stop: true},
		{T: 2, Hold: 1, Held: 1, Ask: 1, Want: 0},
		{Phase: api.PhAmber, T: 1, Ask: -1, Want: 1},
		{Plan: 2, Stage: 1, Phase: api.PhRed, T: 3, Ask: -1, Want: -1, Stop: true},
	} {
		if !stage.May(l, s) {
			t.Errorf("%+v may not be", s)
		}
		for k := range fields(&s) {
			for _, n := range wide() {
				x := s
				*fields(&x)[k] = n
				refused(t, l, x)
			}
		}
		for _, n := range wide() {
			// What wraps around does not make up for it.
			x := s
			x.T, x.Held = n, n
			refused(t, l, x)
			x = s
			x.Hold, x.Held = n, -n
			refused(t, l, x)
			x.Hold, x.Held = -n, n
			refused(t, l, x)
			x.Hold, x.Held = math.MaxInt, n
			refused(t, l, x)
		}
	}
}

// TestWrongPlans: P16.1 to P16.3, lists of plans that do not fit, also where the machine's own plan does.
func TestWrongPlans(t *testing.T) {
	for _, l := range wrong() {
		if plan.All(l) {
			t.Error(l)
		}
		for at := range 3 {
			for _, s := range []api.Sig{stage.New(), green(0), green(1), {Phase: api.PhAmber, Ask: -1, Want: -1}, {}} {
				s.Plan = at
				refused(t, l, s)
			}
		}
		if !stage.May([]api.Plan{short()}, green(1)) {
			t.Error("may not be")
		}
	}
}

// TestMayHeld: P16.1, for how long a machine was held, and is held still, at the edges.
func TestMayHeld(t *testing.T) {
	l := []api.Plan{one()}
	for held := -2; held < 8; held++ {
		for hold := -2; hold < 8; hold++ {
			for ticks := -2; ticks < 16; ticks++ {
				for phase := range 3 {
					for _, stop := range []bool{false, true} {
						s := green(ticks)
						s.Held, s.Hold, s.Phase, s.Stop = held, hold, phase, stop
						ticked(t, l, s)
						most := held >= 0 && hold >= 0 && held+hold <= 4
						want := most && ticks >= held && ticks-held < 9 && (!stop || hold == 0)
						if phase != api.PhGreen {
							want = held == 0 && hold == 0 && ticks >= 0 && ticks <= 2
						}
						if stage.May(l, s) != want {
							t.Errorf("%+v may be: %v", s, !want)
						}
					}
				}
			}
		}
	}
}

// TestGreen: P16.2, what ends a green, and when.
func TestGreen(t *testing.T) {
	l := []api.Plan{one(), one()}
	for ticks := range 13 {
		for at := range 54 {
			s := green(ticks)
			s.Ask, s.Want, s.Held = at%3-1, at/3%3-1, at/9%3
			if s.Stop = at >= 27; s.T-s.Held > 8 || s.T < s.Held {
				continue
			}
			got := ticked(t, l, s)
			ends := ticks+1 >= 5 && (s.Stop || s.Ask != -1 || s.Want != -1 || ticks+1 >= 9)
			want := s
			want.T++
			if ends {
				want = api.Sig{Next: 1, Phase: api.PhAmber, Ask: -1, Want: s.Want, Stop: s.Stop}
				if s.Ask != -1 {
					want.Next = s.Ask
				}
			}
			if got != want {
				t.Errorf("%+v becomes %+v", s, got)
			}
		}
	}
}

// TestHeld: P16.2, a stage that is held goes on, whatever is asked, and ends no sooner than it was held.
func TestHeld(t *testing.T) {
	l := []api.Plan{one(), one()}
	for hold := 1; hold < 5; hold++ {
		for ticks := range 9 {
			for at := range 9 {
				s := green(ticks)
				s.Hold, s.Ask, s.Want = hold, at%3-1, at/3-1
				for left := hold; left > 0; left-- {
					was := s
					if s = ticked(t, l, s); s.Phase != api.PhGreen || s.T != was.T+1 || s.Hold != left-1 || s.Held != was.Held+1 || s.Ask != was.Ask || s.Want != was.Want {
						t.Errorf("%+v becomes %+v", was, s)
					}
				}
				ends := s.T+1 >= 5 && (at != 0 || s.T+1 >= 9)
				if s = ticked(t, l, s); (s.Phase == api.PhAmber) != ends || ends && (s.Held != 0 || s.T != 0) {
					t.Errorf("%+v", s)
				}
			}
		}
	}
	for hold := range 5 {
		// What is held no longer than Max lasts no longer.
		s := green(0)
		s.Hold = hold
		if got := ran(t, l, s, 9); got != "gr gr gr gr gr gr gr gr ar " {
			t.Errorf("%d: %s", hold, got)
		}
	}
	s := green(8)
	s.Hold = 4
	if got := ran(t, l, s, 6); got != "gr gr gr gr ar ar " {
		t.Error(got)
	}
}

// TestNext: P16.2, which stage is next: the one that is asked for, else the one behind.
func TestNext(t *testing.T) {
	l := []api.Plan{other(), other()}
	for now := range 3 {
		for was := range 3 {
			for ask := -1; ask < 3; ask++ {
				for want := -1; want < 2; want++ {
					s := api.Sig{Plan: 1, Stage: now, Next: was, T: 1, Ask: ask, Want: want, Stop: true}
					next := ask
					if ask == -1 {
						next = (now + 1) % 3
					}
					if got := ticked(t, l, s); got != (api.Sig{Plan: 1, Stage: now, Next: next, Phase: api.PhAmber, Ask: -1, Want: want, Stop: true}) {
						t.Errorf("%+v becomes %+v", s, got)
					}
				}
			}
		}
	}
}

// TestAmber: P16.2, amber is as long as its plan says, whatever is asked.
func TestAmber(t *testing.T) {
	l := []api.Plan{last(), short()}
	for at, amber := range []int{3, 2} {
		for ticks := range amber {
			for want := -1; want < 2; want++ {
				for _, stop := range []bool{false, true} {
					s := api.Sig{Plan: at, Stage: 1, Phase: api.PhAmber, T: ticks, Ask: -1, Want: want, Stop: stop}
					then := s
					if then.T++; ticks+1 == amber {
						then.Phase, then.T = api.PhRed, 0
					}
					if got := ticked(t, l, s); got != then {
						t.Errorf("%+v becomes %+v", s, got)
					}
				}
			}
		}
	}
}

// TestRed: P16.2, all is red for as long as the plan says, and longer as long as it stops; then the stage that is next is green, or the first one of another plan.
func TestRed(t *testing.T) {
	l := []api.Plan{last(), short(), other()}
	for at, red := range []int{3, 1, 2} {
		for ticks := range red + 1 {
			for want := -1; want < 3; want++ {
				for next := range l[at].S {
					s := api.Sig{Plan: at, Stage: 1, Next: next, Phase: api.PhRed, T: ticks, Ask: -1, Want: want, Stop: true}
					then := s
					then.T = min(ticks+1, red)
					if got := ticked(t, l, s); got != then {
						t.Errorf("%+v becomes %+v", s, got)
					}
					s.Stop, then.Stop = false, false
					if then.T == red {
						then = api.Sig{Plan: at, Stage: next, Next: next, Ask: -1, Want: -1}
						if want != -1 {
							then = api.Sig{Plan: want, Ask: -1, Want: -1}
						}
					}
					if got := ticked(t, l, s); got != then {
						t.Errorf("%+v becomes %+v", s, got)
					}
				}
			}
		}
	}
	s := api.Sig{Phase: api.PhRed, Next: 1, Ask: -1, Want: -1, Stop: true}
	if got, _ := stage.Run(l, s, 2000); got.T != 3 || got.Phase != api.PhRed || !got.Stop || got.Next != 1 {
		t.Errorf("%+v", got)
	}
}

// TestRun: P16.3, runs of none to many ticks, and of too many.
func TestRun(t *testing.T) {
	for _, l := range lists() {
		for _, s := range []api.Sig{stage.New(), green(0), {Phase: api.PhAmber, Ask: -1, Want: 0}} {
			for _, n := range []int{-2, -1, 0, 1, 2, 3, 10, 100, 1999, 2000, 2001, 2002} {
				ran(t, l, s, n)
			}
			if _, rows := stage.Run(l, s, 2000); len(rows) != 2000 {
				t.Errorf("%v: %d rows", l, len(rows))
			}
			if x, rows := stage.Run(l, s, 0); x != s || len(rows) != 0 {
				t.Errorf("%+v becomes %+v by no tick", s, x)
			}
			for _, n := range append(wide(), -1, 2001, 3000, 4000) {
				if x, rows := stage.Run(l, s, n); !from(0, n, 2000) && (x != s || len(rows) != 0) {
					t.Errorf("%+v becomes %+v behind %d", s, x, n)
				}
			}
		}
	}
}

// TestRuns: P16.3, a run is as long as its parts together.
func TestRuns(t *testing.T) {
	l := []api.Plan{short(), other(), last()}
	for n := range 40 {
		s, rows := stage.Run(l, stage.New(), n)
		x, more := stage.Run(l, s, 40-n)
		y, all := stage.Run(l, stage.New(), 40)
		if x != y || !sameRows(append(rows, more...), all) {
			t.Errorf("%d and %d: %+v, %+v", n, 40-n, x, y)
		}
	}
}

// TestGreat: P16.1 to P16.4, a plan all of which is as long as may be.
func TestGreat(t *testing.T) {
	l := []api.Plan{great(), great(), great()}
	s := api.Sig{Plan: 2, T: 199, Hold: 300, Ask: -1, Want: -1}
	for range 300 {
		s = ticked(t, l, s)
	}
	if want := (api.Sig{Plan: 2, T: 499, Held: 300, Ask: -1, Want: -1}); s != want || !stage.May(l, s) {
		t.Errorf("%+v", s)
	}
	over := s
	over.T++
	refused(t, l, over)
	over = s
	over.Hold++
	refused(t, l, over)
	for _, phase := range []int{api.PhAmber, api.PhRed, api.PhGreen} {
		if s = ticked(t, l, s); s.Phase != phase || s.T != 0 {
			t.Errorf("%+v", s)
		}
		for range 199 {
			s = ticked(t, l, s)
		}
	}
	if want := (api.Sig{Plan: 2, Stage: 1, Next: 1, T: 199, Ask: -1, Want: -1}); s != want {
		t.Errorf("%+v", s)
	}
	if s = ticked(t, l, s); s != (api.Sig{Plan: 2, Stage: 1, Next: 2, Phase: api.PhAmber, Ask: -1, Want: -1}) {
		t.Errorf("%+v", s)
	}
}

// drawn are plans that fit together, by chance.
func drawn(chance *rand.Rand) []api.Plan {
	l := make([]api.Plan, 1+chance.Intn(3))
	groups := 1 + chance.Intn(8)
	for i := range l {
		l[i] = drawnOf(chance, groups)
	}
	return l
}

// drawnOf is one of so many groups.
func drawnOf(chance *rand.Rand, groups int) api.Plan {
	p := api.Plan{M: make([]int, groups), Amber: 1 + chance.Intn(4), Red: 1 + chance.Intn(4), Hold: chance.Intn(6)}
	for i := range p.M {
		for j := range i {
			if chance.Intn(4) == 0 {
				p.M[i] |= 1 << j
				p.M[j] |= 1 << i
			}
		}
	}
	for !plan.Fit(p) {
		p.S = make([]api.Stage, 2+chance.Intn(5))
		sets := group.Sets(p.M)
		for k := range p.S {
			low := 1 + chance.Intn(6)
			p.S[k] = api.Stage{G: sets[chance.Intn(len(sets))], Min: low, Max: low + chance.Intn(6)}
		}
		// Too many may conflict for so few stages.
		if i := chance.Intn(groups); !plan.Fit(p) {
			p.M[i] = 0
			for j := range p.M {
				p.M[j] &^= 1 << i
			}
		}
	}
	return p
}

// span is for how many ticks a machine was in one phase, and for how many of these it was held.
type span struct {
	plan         api.Plan
	stage, phase int
	ticks, held  int
	stopped      bool
}

// safe holds a span that is over against what the document promises of it.
func (x span) safe(t *testing.T, then api.Sig) {
	t.Helper()
	least, most, next := x.plan.S[x.stage].Min, x.plan.S[x.stage].Max+x.held, api.PhAmber
	switch x.phase {
	case api.PhAmber:
		least, most, next = x.plan.Amber, x.plan.Amber, api.PhRed
	case api.PhRed:
		least, most, next = x.plan.Red, x.plan.Red, api.PhGreen
		if x.stopped {
			most = math.MaxInt
		}
	}
	if !from(least, x.ticks, most) || then.Phase != next || x.held > x.plan.Hold {
		t.Errorf("%+v is over, then comes %+v", x, then)
	}
}

// TestSafe: P16.4, whatever is asked: what may be stays so, no green is too short, none is too long, amber is as long as it must be, all is red long enough, and nothing clashes.
func TestSafe(t *testing.T) {
	chance := rand.New(rand.NewSource(1))
	seen := [api.Phases]int{}
	for range 300 {
		l := drawn(chance)
		s := stage.New()
		now := span{plan: l[0], phase: api.PhRed, ticks: 1}
		for range 300 {
			if all := asked(l, s); len(all) > 0 && chance.Intn(5) == 0 {
				s = all[chance.Intn(len(all))]
			}
			now.stopped = now.stopped || s.Stop
			was := s
			if s = ticked(t, l, s); s.Phase == was.Phase && s.T == 0 || !stage.May(l, s) {
				t.Errorf("%+v becomes %+v", was, s)
			}
			if row := stage.Lamps(l, s); lamp.Clash(l[s.Plan], row) || s.Phase == api.PhRed && slices.Max(row) != api.LpRed {
				t.Errorf("%+v shows %v", s, row)
			}
			if was.Hold > 0 {
				now.held++
			}
			if s.Phase != was.Phase {
				now.safe(t, s)
				seen[was.Phase]++
				now = span{plan: l[s.Plan], stage: s.Stage, phase: s.Phase}
			}
			now.ticks++
		}
	}
	if slices.Min(seen[:]) < 3000 {
		t.Error(seen)
	}
}

// TestChance: P16.1 to P16.4, machines by chance of plans by chance, most of which may be.
func TestChance(t *testing.T) {
	chance := rand.New(rand.NewSource(2))
	could := 0
	for range 20000 {
		l := drawn(chance)
		s := api.Sig{Plan: chance.Intn(len(l)), Phase: chance.Intn(3), Ask: -1, Want: chance.Intn(len(l)+1) - 1, Stop: chance.Intn(2) == 0}
		p := l[s.Plan]
		s.Stage, s.Next, s.T = chance.Intn(len(p.S)), chance.Intn(len(p.S)), chance.Intn(5)
		if s.Phase == api.PhGreen {
			s.Hold, s.Held, s.Ask = chance.Intn(3)/2, chance.Intn(3)/2, chance.Intn(len(p.S)+1)-1
		}
		if chance.Intn(4) == 0 {
			*fields(&s)[chance.Intn(9)] += chance.Intn(3) - 1
		}
		if may(l, s) {
			could++
		}
		ticked(t, l, s)
		ran(t, l, s, chance.Intn(12)-1)
	}
	if !from(4000, could, 19000) {
		t.Errorf("%d may be", could)
	}
}

// behind are plans with marks in memory behind what there is.
func behind(l []api.Plan) []api.Plan {
	all := slices.Clone(l)
	for i, p := range all {
		all[i].M = append(slices.Clone(p.M), slices.Repeat([]int{1000}, 9)...)[:len(p.M)]
		all[i].S = append(slices.Clone(p.S), slices.Repeat([]api.Stage{{G: 1000}}, 9)...)[:len(p.S)]
	}
	return append(all, slices.Repeat([]api.Plan{{Hold: 1000}}, 4)...)[:len(l)]
}

// kept tells whether plans that behind answered still are those, also in the memory behind.
func kept(l, was []api.Plan) bool {
	for _, p := range l {
		m, s := len(p.M), len(p.S)
		if !slices.Equal(p.M[:m+9][m:], slices.Repeat([]int{1000}, 9)) || !slices.Equal(p.S[:s+9][s:], slices.Repeat([]api.Stage{{G: 1000}}, 9)) {
			return false
		}
	}
	n := len(l)
	return same(l, was) && same(l[:n+4][n:], slices.Repeat([]api.Plan{{Hold: 1000}}, 4))
}

// TestOwn: R3, what is handed in stays as it was, also in the memory behind.
func TestOwn(t *testing.T) {
	for _, was := range append(lists(), wrong()...) {
		l := behind(was)
		for _, s := range []api.Sig{stage.New(), green(0), green(1), {Phase: api.PhAmber, Ask: -1, Want: 0}, {T: 1, Hold: 1, Ask: 1, Want: 1}, {Plan: 2}} {
			stage.May(l, s)
			stage.Tick(l, s)
			stage.Lamps(l, s)
			stage.Run(l, s, 50)
			if !kept(l, was) {
				t.Errorf("%v is changed", was)
			}
		}
	}
}

// TestOwnRows: R3, what is answered is the caller's own, and no two rows share any memory.
func TestOwnRows(t *testing.T) {
	l := []api.Plan{short(), other()}
	_, rows := stage.Run(l, green(0), 60)
	_, want := run(l, green(0), 60)
	for i := range rows {
		row := append(rows[i], 7, 7, 7, 7, 7, 7, 7, 7)
		rows[i][0], rows[i][1], row[0] = 7, 7, 7
		for k := i + 1; k < len(rows); k++ {
			if !slices.Equal(rows[k], want[k]) {
				t.Errorf("row %d changes row %d", i, k)
			}
		}
	}
	rows = append(rows, []int{7})
	if _, again := stage.Run(l, green(0), 60); !sameRows(again, want) || len(rows) != 61 {
		t.Error("a run changes another one")
	}
	row := stage.Lamps(l, green(0))
	row[0], row[1] = 7, 7
	if lamp.Text(stage.Lamps(l, green(0))) != "gr" || !same(l, []api.Plan{short(), other()}) {
		t.Error("a row changes another one")
	}
}

// TestAgain: R5, nothing hangs on what was asked before, nor on who else asks: several ask at one time.
func TestAgain(t *testing.T) {
	chance := rand.New(rand.NewSource(3))
	all := append(lists(), wrong()...)
	for range 20 {
		all = append(all, drawn(chance))
	}
	var asks sync.WaitGroup
	for range 4 {
		asks.Go(func() {
			for _, l := range all {
				ran(t, l, stage.New(), 100)
				ran(t, l, green(0), 30)
				ticked(t, l, green(0))
				ticked(t, l, api.Sig{T: 1, Hold: 1, Ask: 1, Want: 1})
			}
			if stage.New() != (api.Sig{Phase: api.PhRed, Ask: -1, Want: -1}) {
				t.Error("another one is new")
			}
		})
	}
	asks.Wait()
}
