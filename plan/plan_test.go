package plan_test

import (
	"math"
	"math/rand"
	"slices"
	"sync"
	"testing"

	"pelican/api"
	"pelican/group"
	"pelican/plan"
)

// in tells by the document's words whether a group is in a set: the set by 2^i, rounded down, is odd.
func in(set, i int) bool {
	by := 1
	for range i {
		by *= 2
	}
	return set/by%2 == 1
}

func span(n int) bool { return 1 <= n && n <= 200 }

// fit, all, same, next, least and cycle are what is to be answered, by the chapter's words.
func fit(p api.Plan) bool {
	if !group.May(p.M) || len(p.S) < 2 || len(p.S) > 6 || !span(p.Amber) || !span(p.Red) || p.Hold < 0 || p.Hold > 300 {
		return false
	}
	for _, s := range p.S {
		if !group.Free(p.M, s.G) || s.G == 0 || !span(s.Min) || s.Max < s.Min || s.Max > 200 {
			return false
		}
	}
	for i := range p.M {
		if !slices.ContainsFunc(p.S, func(s api.Stage) bool { return in(s.G, i) }) {
			return false
		}
	}
	return true
}

func all(l []api.Plan) bool {
	if len(l) != 1 && len(l) != 2 && len(l) != 3 {
		return false
	}
	for _, p := range l {
		for _, q := range l {
			if !fit(p) || len(p.M) != len(q.M) {
				return false
			}
		}
	}
	return true
}

func same(a, b api.Plan) bool {
	if len(a.M) != len(b.M) || len(a.S) != len(b.S) || a.Amber != b.Amber || a.Red != b.Red || a.Hold != b.Hold {
		return false
	}
	for i := range a.M {
		if a.M[i] != b.M[i] {
			return false
		}
	}
	for i := range a.S {
		if a.S[i].G != b.S[i].G || a.S[i].Min != b.S[i].Min || a.S[i].Max != b.S[i].Max {
			return false
		}
	}
	return true
}

func next(p api.Plan, k int) int {
	switch {
	case !fit(p) || k < 0 || k > len(p.S)-1:
		return -1
	case k == len(p.S)-1:
		return 0
	}
	return k + 1
}

func least(p api.Plan, g int) int {
	if !fit(p) || g < 0 || g > len(p.M)-1 {
		return 0
	}
	var mins []int
	for _, s := range p.S {
		if in(s.G, g) {
			mins = append(mins, s.Min)
		}
	}
	return slices.Min(mins)
}

func cycle(p api.Plan) int {
	if !fit(p) {
		return 0
	}
	n := (p.Amber + p.Red) * len(p.S)
	for _, s := range p.S {
		n += s.Min
	}
	return n
}

// wide are numbers at the edges of all kinds of integers, and such as a shorter one would take for a small one.
func wide() []int {
	var l []int
	for _, bits := range []int{8, 9, 15, 16, 31, 32, 62} {
		for low := -1; low <= 8; low++ {
			l = append(l, 1<<bits+low, -1<<bits+low)
		}
		l = append(l, 1<<bits+200, -1<<bits+200)
	}
	for near := range 9 {
		l = append(l, math.MinInt+near, math.MaxInt-near)
	}
	return l
}

// own is a plan with memory of its own.
func own(p api.Plan) api.Plan {
	p.M, p.S = slices.Clone(p.M), slices.Clone(p.S)
	return p
}

// held asks all of a plan, and holds the answers against the chapter's words, and the plan against what it was.
func held(t *testing.T, p api.Plan) {
	t.Helper()
	was := own(p)
	if got := plan.Fit(p); got != fit(was) {
		t.Errorf("%v fits: %v", p, got)
	}
	if got := plan.Cycle(p); got != cycle(was) {
		t.Errorf("%v: a cycle of %d", p, got)
	}
	for i := -2; i < 10; i++ {
		if got := plan.Next(p, i); got != next(was, i) {
			t.Errorf("%v: %d is behind stage %d", p, got, i)
		}
		if got := plan.Least(p, i); got != least(was, i) {
			t.Errorf("%v: group %d has %d at least", p, i, got)
		}
	}
	if !same(p, was) || !plan.Same(p, was) {
		t.Errorf("%v was %v", p, was)
	}
}

// never asks all of a plan that does not fit.
func never(t *testing.T, p api.Plan) {
	t.Helper()
	held(t, p)
	if plan.Fit(p) || plan.Next(p, 0) != -1 || plan.Least(p, 0) != 0 || plan.Cycle(p) != 0 || plan.All([]api.Plan{p}) || plan.All([]api.Plan{two(), p}) {
		t.Errorf("%v fits", p)
	}
}

// always asks all of a plan that fits.
func always(t *testing.T, p api.Plan) {
	t.Helper()
	held(t, p)
	if !plan.Fit(p) || plan.Next(p, 0) != 1 || plan.Least(p, 0) < 1 || plan.Cycle(p) < 6 || !plan.All([]api.Plan{p}) {
		t.Errorf("%v does not fit", p)
	}
}

// two is the plan of the chapter's example.
func two() api.Plan {
	return api.Plan{M: []int{2, 1}, S: []api.Stage{{G: 1, Min: 5, Max: 9}, {G: 2, Min: 7, Max: 8}}, Amber: 3, Red: 2, Hold: 4}
}

// three has groups that are in several stages, some of several groups.
func three() api.Plan {
	return api.Plan{M: []int{2, 1, 0}, S: []api.Stage{{G: 1, Min: 9, Max: 9}, {G: 6, Min: 7, Max: 8}, {G: 4, Min: 3, Max: 200}, {G: 5, Min: 11, Max: 12}}, Amber: 200, Red: 1, Hold: 300}
}

// drawn is a plan that fits, by chance.
func drawn(chance *rand.Rand) api.Plan {
	count := 1 + chance.Intn(8)
	p := api.Plan{M: make([]int, count), Amber: 1 + chance.Intn(200), Red: 1 + chance.Intn(200), Hold: chance.Intn(301)}
	for i := range p.M {
		for j := range i {
			if chance.Intn(4) == 0 {
				p.M[i] |= 1 << j
				p.M[j] |= 1 << i
			}
		}
	}
	for !fit(p) {
		p.S = make([]api.Stage, 2+chance.Intn(5))
		for k := range p.S {
			low := 1 + chance.Intn(200)
			p.S[k] = api.Stage{G: group.Sets(p.M)[chance.Intn(len(group.Sets(p.M)))], Min: low, Max: low + chance.Intn(201-low)}
		}
		// Too many may conflict for so few stages.
		if i := chance.Intn(count); !fit(p) {
			p.M[i] = 0
			for j := range p.M {
				p.M[j] &^= 1 << i
			}
		}
	}
	return p
}

// parts are all numbers of a plan, by where they stand.
func parts(p *api.Plan) []*int {
	l := []*int{&p.Amber, &p.Red, &p.Hold}
	for i := range p.M {
		l = append(l, &p.M[i])
	}
	for k := range p.S {
		s := &p.S[k]
		l = append(l, &s.G, &s.Min, &s.Max)
	}
	return l
}

// with is a plan of which that part is another number.
func with(p api.Plan, part, n int) api.Plan {
	p = own(p)
	*parts(&p)[part] = n
	return p
}

// TestLimits: the limits that the chapter names.
func TestLimits(t *testing.T) {
	if api.MaxGroups != 8 || api.MaxStages != 6 || api.MaxPlans != 3 || api.MaxSpan != 200 || api.MaxHold != 300 {
		t.Error("limits")
	}
}

// TestExample: P14.1 and P14.2, the chapter's example, and a plan whose groups are in several stages.
func TestExample(t *testing.T) {
	p, q := two(), three()
	always(t, p)
	always(t, q)
	if plan.Cycle(p) != 22 || plan.Least(p, 0) != 5 || plan.Least(p, 1) != 7 || plan.Least(p, 2) != 0 || plan.Next(p, 0) != 1 || plan.Next(p, 1) != 0 || plan.Next(p, 2) != -1 {
		t.Error("two stages")
	}
	if plan.Cycle(q) != 834 || plan.Least(q, 0) != 9 || plan.Least(q, 1) != 7 || plan.Least(q, 2) != 3 || plan.Least(q, 3) != 0 || plan.Next(q, 2) != 3 || plan.Next(q, 3) != 0 || plan.Next(q, 4) != -1 {
		t.Error("four stages")
	}
}

// TestStages: P14.1 and P14.2, from no stages to many.
func TestStages(t *testing.T) {
	for _, p := range []api.Plan{two(), three()} {
		first := p.S
		for n := range 20 {
			p.S = slices.Repeat(first, 10)[:n]
			held(t, p)
			if got, want := plan.Fit(p), n >= 2 && n <= 6; got != want {
				t.Errorf("%d stages: %v", n, got)
			}
		}
	}
	one := api.Plan{M: []int{0}, S: make([]api.Stage, 9), Amber: 1, Red: 1}
	for k := range one.S {
		one.S[k] = api.Stage{G: 1, Min: k + 1, Max: 200}
	}
	for n := range 10 {
		p := one
		if p.S = one.S[:n]; n < 2 || n > 6 {
			never(t, p)
			continue
		}
		always(t, p)
		if plan.Cycle(p) != 2*n+n*(n+1)/2 || plan.Least(p, 0) != 1 || plan.Next(p, n-1) != 0 || plan.Next(p, n-2) != n-1 || plan.Next(p, n) != -1 {
			t.Errorf("%d stages of one group", n)
		}
	}
	for _, n := range []int{1 << 8, 1<<8 + 2, 1<<16 + 2} {
		p := one
		p.S = slices.Repeat(one.S[:1], n)
		never(t, p)
	}
}

// TestSpans: P14.1 and P14.2, each number of a plan from below what it may be to above it, and wide ones.
func TestSpans(t *testing.T) {
	numbers := wide()
	for n := -3; n <= 305; n++ {
		numbers = append(numbers, n)
	}
	for _, p := range []api.Plan{two(), three()} {
		for part := range parts(&p) {
			for _, n := range numbers {
				held(t, with(p, part, n))
			}
		}
	}
	for _, n := range numbers {
		ask := func(fits bool, change func(p *api.Plan)) {
			p := two()
			if change(&p); fits {
				always(t, p)
			} else {
				never(t, p)
			}
		}
		ask(n >= 1 && n <= 200, func(p *api.Plan) { p.Amber = n })
		ask(n >= 1 && n <= 200, func(p *api.Plan) { p.Red = n })
		ask(n >= 0 && n <= 300, func(p *api.Plan) { p.Hold = n })
		ask(n >= 1 && n <= 9, func(p *api.Plan) { p.S[0].Min = n })
		ask(n >= 1 && n <= 8, func(p *api.Plan) { p.S[1].Min = n })
		ask(n >= 5 && n <= 200, func(p *api.Plan) { p.S[0].Max = n })
		ask(n >= 7 && n <= 200, func(p *api.Plan) { p.S[1].Max = n })
		ask(n >= 1 && n <= 200, func(p *api.Plan) { p.S[1].Min, p.S[1].Max = n, n })
	}
}

// TestEdges: P14.1 and P14.2, all numbers at their least, and at their greatest.
func TestEdges(t *testing.T) {
	low := api.Plan{M: []int{0}, S: []api.Stage{{G: 1, Min: 1, Max: 1}, {G: 1, Min: 1, Max: 1}}, Amber: 1, Red: 1}
	always(t, low)
	if plan.Cycle(low) != 6 || plan.Least(low, 0) != 1 {
		t.Error("least")
	}
	high := api.Plan{M: make([]int, 8), S: slices.Repeat([]api.Stage{{G: 255, Min: 200, Max: 200}}, 6), Amber: 200, Red: 200, Hold: 300}
	always(t, high)
	if plan.Cycle(high) != 3600 || plan.Least(high, 0) != 200 || plan.Least(high, 7) != 200 || plan.Least(high, 8) != 0 {
		t.Error("greatest")
	}
	high.M = make([]int, 9)
	never(t, high)
	never(t, api.Plan{})
	never(t, api.Plan{S: two().S, Amber: 1, Red: 1})
	never(t, api.Plan{M: []int{}, S: make([]api.Stage, 2), Amber: 1, Red: 1})
}

// TestGroups: P14.1, all matrices of up to three groups, and rows that are none, with all sets in two stages, and in three.
func TestGroups(t *testing.T) {
	p := api.Plan{Amber: 3, Red: 2, S: []api.Stage{{Min: 5, Max: 6}, {Min: 4, Max: 7}, {Min: 8, Max: 8}}}
	for count := range 4 {
		sets := 1 << count
		for rows := range 1 << (count * count) {
			p.M = nil
			for i := range count {
				p.M = append(p.M, rows>>(i*count)&(sets-1))
			}
			for g := range (sets + 1) * (sets + 1) * (sets + 1) {
				p.S[0].G, p.S[1].G, p.S[2].G = g%(sets+1), g/(sets+1)%(sets+1), g/(sets+1)/(sets+1)
				short := p
				short.S = p.S[:2]
				if plan.Fit(p) != fit(p) || plan.Fit(short) != fit(short) {
					t.Fatalf("%v fits: %v, with two stages: %v", p, plan.Fit(p), plan.Fit(short))
				}
				if fit(p) {
					held(t, p)
				}
			}
		}
	}
}

// TestWrongGroups: P14.1 and P14.2, rows and sets that are none, that conflict, that are empty, and groups that no stage has.
func TestWrongGroups(t *testing.T) {
	for i, change := range []func(p *api.Plan){
		func(p *api.Plan) { p.M = nil },
		func(p *api.Plan) { p.M = p.M[:1] },
		func(p *api.Plan) { p.M = append(p.M, 0) },
		func(p *api.Plan) { p.M[0] = 0 },
		func(p *api.Plan) { p.M[0] = 3 },
		func(p *api.Plan) { p.M[1] = 5 },
		func(p *api.Plan) { p.M[1] = -1 },
		func(p *api.Plan) { p.S[0].G = 0 },
		func(p *api.Plan) { p.S[1].G = 0 },
		func(p *api.Plan) { p.S[0].G = 2 },
		func(p *api.Plan) { p.S[1].G = 1 },
		func(p *api.Plan) { p.S[0].G = 3 },
		func(p *api.Plan) { p.S[1].G = 3 },
		func(p *api.Plan) { p.S[0].G = 5 },
		func(p *api.Plan) { p.S[1].G = -2 },
		func(p *api.Plan) { p.S = append(p.S, api.Stage{Min: 5, Max: 9}) },
		func(p *api.Plan) { p.S = append(p.S, api.Stage{G: 3, Min: 5, Max: 9}) },
		func(p *api.Plan) { p.S = append(p.S, api.Stage{G: 4, Min: 5, Max: 9}) },
		func(p *api.Plan) { p.S = append(p.S, api.Stage{G: -4, Min: 5, Max: 9}) },
		func(p *api.Plan) { p.S = append(p.S, api.Stage{G: 1, Min: 5, Max: 4}) },
	} {
		p := two()
		change(&p)
		never(t, p)
		if plan.Fit(p) {
			t.Error(i)
		}
	}
	// No two of these conflict, and one of them is in no stage.
	for lacks := range 8 {
		p := api.Plan{M: make([]int, 8), S: []api.Stage{{G: 0x55, Min: 1, Max: 1}, {G: 0xAA, Min: 2, Max: 2}, {G: 0x3C, Min: 3, Max: 3}}, Amber: 1, Red: 1}
		always(t, p)
		for k := range p.S {
			p.S[k].G &^= 1 << lacks
		}
		never(t, p)
		for _, n := range wide() {
			if q := own(p); n < 0 || n > 255 {
				q.S[0].G = n
				never(t, q)
			}
		}
	}
}

// TestPlaces: P14.2, stages and groups that there are, and such as there are not.
func TestPlaces(t *testing.T) {
	for _, p := range []api.Plan{two(), three(), {}} {
		for _, n := range wide() {
			if got := plan.Next(p, n); got != -1 {
				t.Errorf("%v: %d is behind stage %d", p, got, n)
			}
			if got := plan.Least(p, n); got != 0 {
				t.Errorf("%v: group %d has %d at least", p, n, got)
			}
		}
	}
}

// TestAll: P14.1, lists of up to five plans that have as many groups, or not, and fit, or not.
func TestAll(t *testing.T) {
	bad := two()
	bad.Red = 0
	other := two()
	other.S[1] = api.Stage{G: 2, Min: 1, Max: 200}
	free := three()
	free.M = []int{0, 0, 0}
	kinds := []api.Plan{two(), three(), bad, other, free, {}}
	var ask func(l []api.Plan)
	ask = func(l []api.Plan) {
		if got := plan.All(l); got != all(l) {
			t.Errorf("%v: %v", l, got)
		}
		for _, p := range kinds {
			if len(l) < 5 {
				ask(append(slices.Clone(l), p))
			}
		}
	}
	ask(nil)
	ask([]api.Plan{})
	p, q, r := two(), other, three()
	for i, l := range [][]api.Plan{{p}, {r}, {p, q}, {p, p}, {r, free}, {p, q, p}, {q, q, q}} {
		if !plan.All(l) {
			t.Error(i)
		}
	}
	for i, l := range [][]api.Plan{nil, {}, {bad}, {p, r}, {r, p}, {p, q, r}, {p, r, q}, {r, p, q}, {p, bad}, {p, q, bad}, {bad, p, q}, {p, q, p, q}, {p, p, p, r}, make([]api.Plan, 2)} {
		if plan.All(l) {
			t.Error(i)
		}
	}
	for _, n := range []int{4, 5, 1<<8 + 1, 1<<16 + 2} {
		if plan.All(slices.Repeat([]api.Plan{p}, n)) {
			t.Error(n)
		}
	}
}

// TestSame: P14.1, plans of which one number is another, two are exchanged, or there are more, or fewer.
func TestSame(t *testing.T) {
	for _, p := range []api.Plan{two(), three(), {}} {
		if !plan.Same(p, p) || !plan.Same(p, own(p)) {
			t.Error(p)
		}
		differ := func(q api.Plan) {
			t.Helper()
			if plan.Same(p, q) || plan.Same(q, p) || !plan.Same(q, own(q)) {
				t.Errorf("%v and %v are the same", p, q)
			}
		}
		for part, at := range parts(&p) {
			for _, n := range append(wide(), *at-1, *at+1, *at+1<<8, *at+1<<32, -*at-1, *at^math.MinInt) {
				differ(with(p, part, n))
			}
		}
		for n := range len(p.M) {
			q := own(p)
			q.M = q.M[:n]
			differ(q)
		}
		for n := range len(p.S) {
			q := own(p)
			q.S = q.S[:n]
			differ(q)
		}
		q := own(p)
		q.M = append(q.M, 0)
		differ(q)
		q = own(p)
		q.S = append(q.S, api.Stage{})
		differ(q)
		if len(p.S) > 1 {
			q = own(p)
			slices.Reverse(q.M)
			differ(q)
			q = own(p)
			slices.Reverse(q.S)
			differ(q)
			q = own(p)
			q.Amber, q.Red = q.Red, q.Amber
			differ(q)
		}
	}
}

// TestSameEmpty: P14.1 and R6, lists without elements may be nil or empty; plans that do not fit are held against each other, too.
func TestSameEmpty(t *testing.T) {
	for _, m := range [][]int{nil, {}, make([]int, 0, 4)} {
		for _, s := range [][]api.Stage{nil, {}, make([]api.Stage, 0, 4)} {
			p := api.Plan{M: m, S: s, Hold: -7}
			never(t, p)
			if !plan.Same(p, api.Plan{Hold: -7}) || !plan.Same(api.Plan{Hold: -7}, p) || plan.Same(p, api.Plan{}) || plan.Same(api.Plan{}, p) {
				t.Error(p)
			}
		}
	}
}

// TestRound: P14.3, by Next one comes through all stages, and back, from each; no stage is shorter than Least of its groups, and one is as short.
func TestRound(t *testing.T) {
	chance := rand.New(rand.NewSource(1))
	for range 3000 {
		p := drawn(chance)
		always(t, p)
		for first := range p.S {
			seen, k := map[int]bool{}, first
			for range p.S {
				seen[k] = true
				k = plan.Next(p, k)
			}
			if k != first || len(seen) != len(p.S) {
				t.Errorf("%v: %d stages from %d on, then %d", p, len(seen), first, k)
			}
		}
		for i := range p.M {
			as := false
			for _, s := range p.S {
				if in(s.G, i) && s.Min < plan.Least(p, i) {
					t.Errorf("%v: group %d, stage %v", p, i, s)
				}
				as = as || in(s.G, i) && s.Min == plan.Least(p, i)
			}
			if !as {
				t.Errorf("%v: group %d has %d at least", p, i, plan.Least(p, i))
			}
		}
	}
}

// TestChance: P14.1 and P14.2, plans that fit, of which up to two numbers are changed by chance, and plans of numbers by chance.
func TestChance(t *testing.T) {
	chance := rand.New(rand.NewSource(2))
	odd := append(wide(), 0, 1, 2, 3, 199, 200, 201, 255, 299, 300, 301)
	fits := 0
	for range 20000 {
		p := drawn(chance)
		for range chance.Intn(3) {
			part, n := chance.Intn(len(parts(&p))), chance.Intn(310)-5
			if chance.Intn(3) == 0 {
				n = odd[chance.Intn(len(odd))]
			}
			p = with(p, part, n)
		}
		if held(t, p); fit(p) {
			fits++
		}
		if q := drawn(chance); plan.All([]api.Plan{p, q}) != all([]api.Plan{p, q}) || plan.Same(p, q) != same(p, q) {
			t.Errorf("%v, %v", p, q)
		}
	}
	if fits < 5000 || fits > 15000 {
		t.Errorf("%d fit", fits)
	}
	for range 20000 {
		p := api.Plan{M: make([]int, chance.Intn(11)), S: make([]api.Stage, chance.Intn(9))}
		for _, at := range parts(&p) {
			*at = chance.Intn(6)
		}
		held(t, p)
	}
}

// spare is a plan with marks in memory behind what it has.
func spare(p api.Plan) api.Plan {
	m, s := p.M, p.S
	p.M = append(slices.Clone(m), slices.Repeat([]int{1000}, 9)...)[:len(m)]
	p.S = append(slices.Clone(s), slices.Repeat([]api.Stage{{G: 1000, Min: 1000, Max: 1000}}, 9)...)[:len(s)]
	return p
}

// marked tells whether a plan that spare answered still is that one, also in the memory behind.
func marked(p, was api.Plan) bool {
	q := spare(was)
	return same(p, was) && slices.Equal(p.M[:len(p.M)+9], q.M[:len(q.M)+9]) && slices.Equal(p.S[:len(p.S)+9], q.S[:len(q.S)+9])
}

// TestOwn: R3, what is handed in stays as it was, also in the memory behind.
func TestOwn(t *testing.T) {
	bad := three()
	bad.S[3].Min = 13
	for _, was := range []api.Plan{two(), three(), bad, {}} {
		p, q := spare(was), spare(was)
		plan.Fit(p)
		plan.Same(p, q)
		plan.All([]api.Plan{p, q})
		for i := -1; i < 9; i++ {
			plan.Next(p, i)
			plan.Least(p, i)
		}
		plan.Cycle(p)
		if !marked(p, was) || !marked(q, was) {
			t.Errorf("%v is changed", was)
		}
	}
}

// TestOwnList: R3, a list of plans stays as it was, in whichever order, also in the memory behind, be it one of All's or not.
func TestOwnList(t *testing.T) {
	chance := rand.New(rand.NewSource(4))
	for range 300 {
		was := []api.Plan{two(), two(), three(), two(), drawn(chance)}
		was[0].Red, was[1].Red = 1+chance.Intn(200), 1+chance.Intn(200)
		was[1].S[0].Min, was[3].Hold = 1+chance.Intn(9), chance.Intn(300)
		chance.Shuffle(len(was), func(i, k int) { was[i], was[k] = was[k], was[i] })
		var l []api.Plan
		for _, p := range was {
			l = append(l, spare(p))
		}
		for n := range len(l) + 1 {
			if got := plan.All(l[:n]); got != all(was[:n]) {
				t.Errorf("%v: %v", was[:n], got)
			}
		}
		for i := range l {
			if !marked(l[i], was[i]) {
				t.Errorf("%v is changed", was)
			}
		}
	}
}

// TestAgain: R5, nothing hangs on what was asked before, nor on who else asks: several ask at one time.
func TestAgain(t *testing.T) {
	chance := rand.New(rand.NewSource(3))
	plans := []api.Plan{two(), three(), {}}
	for range 100 {
		p := drawn(chance)
		plans = append(plans, p, with(p, chance.Intn(len(parts(&p))), -1))
	}
	var asks sync.WaitGroup
	for range 4 {
		asks.Go(func() {
			for range 3 {
				for _, p := range plans {
					held(t, p)
				}
			}
		})
	}
	asks.Wait()
}
