package lamp_test

import (
	"math"
	"math/rand"
	"slices"
	"strings"
	"sync"
	"testing"

	"pelican/api"
	"pelican/group"
	"pelican/lamp"
	"pelican/plan"
)

// in tells by the document's words whether a group is in a set: the set by 2^i, rounded down, is odd.
func in(set, i int) bool {
	by := 1
	for range i {
		by *= 2
	}
	return set/by%2 == 1
}

// show, may, text, read and clash are what is to be answered, by the chapter's words.
func show(p api.Plan, stage, phase int) []int {
	if !plan.Fit(p) || stage < 0 || stage > len(p.S)-1 || phase != api.PhGreen && phase != api.PhAmber && phase != api.PhRed {
		return nil
	}
	var l []int
	for i := range p.M {
		switch {
		case !in(p.S[stage].G, i):
			l = append(l, api.LpRed)
		case phase == api.PhGreen:
			l = append(l, api.LpGreen)
		case phase == api.PhAmber:
			l = append(l, api.LpAmber)
		default:
			l = append(l, api.LpRed)
		}
	}
	return l
}

func may(l []int) bool {
	for _, n := range l {
		if n != 0 && n != 1 && n != 2 {
			return false
		}
	}
	return 1 <= len(l) && len(l) <= 8
}

func text(l []int) string {
	s := ""
	for _, n := range l {
		switch {
		case !may(l):
		case n == api.LpRed:
			s += "r"
		case n == api.LpAmber:
			s += "a"
		default:
			s += "g"
		}
	}
	return s
}

// read looks for letters as bytes, not as runes.
func read(s string) ([]int, bool) {
	var l []int
	for i := range len(s) {
		switch s[i] {
		case 'r':
			l = append(l, 0)
		case 'a':
			l = append(l, 1)
		case 'g':
			l = append(l, 2)
		}
	}
	if len(l) != len(s) || len(s) < 1 || len(s) > 8 {
		return nil, false
	}
	return l, true
}

func clash(p api.Plan, l []int) bool {
	if !plan.Fit(p) || len(l) != len(p.M) || !may(l) {
		return false
	}
	for i := range l {
		for k := range l {
			if in(p.M[i], k) && l[i] != 0 && l[k] != 0 {
				return true
			}
		}
	}
	return false
}

// wide are numbers at the edges of all kinds of integers, and such as a shorter one would take for a small one.
func wide() []int {
	var l []int
	for _, bits := range []int{8, 9, 15, 16, 31, 32, 62} {
		for low := -1; low <= 8; low++ {
			l = append(l, 1<<bits+low, -1<<bits+low)
		}
	}
	for near := range 9 {
		l = append(l, math.MinInt+near, math.MaxInt-near, -1-near, 3+near)
	}
	return l
}

// own is a plan with memory of its own.
func own(p api.Plan) api.Plan {
	p.M, p.S = slices.Clone(p.M), slices.Clone(p.S)
	return p
}

// shown asks what a plan's lamps show, and holds the answers against the chapter's words, and the plan against what it was.
func shown(t *testing.T, p api.Plan) {
	t.Helper()
	was := own(p)
	for stage := -2; stage < 9; stage++ {
		for phase := -2; phase < 6; phase++ {
			got, want := lamp.Show(p, stage, phase), show(was, stage, phase)
			if !slices.Equal(got, want) {
				t.Errorf("%v: stage %d, phase %d: %v, not %v", p, stage, phase, got, want)
			}
			if len(want) > 0 {
				rowed(t, got)
			}
			clashed(t, p, got)
		}
	}
	if !plan.Same(p, was) {
		t.Errorf("%v was %v", p, was)
	}
}

// rowed asks all of a row, and of its text.
func rowed(t *testing.T, l []int) {
	t.Helper()
	was := slices.Clone(l)
	if got := lamp.May(l); got != may(was) {
		t.Errorf("%v may be: %v", l, got)
	}
	if got := lamp.Text(l); got != text(was) {
		t.Errorf("%v is %q", l, got)
	}
	if back, is := lamp.Read(lamp.Text(l)); is != may(was) || is && !slices.Equal(back, was) || !is && len(back) != 0 {
		t.Errorf("%v comes back as %v, %v", l, back, is)
	}
	if !slices.Equal(l, was) {
		t.Errorf("%v was %v", l, was)
	}
}

// spelled asks of a text.
func spelled(t *testing.T, s string) {
	t.Helper()
	got, is := lamp.Read(s)
	want, good := read(s)
	if is != good || !slices.Equal(got, want) {
		t.Errorf("%q is %v, %v", s, got, is)
	}
	if is && (lamp.Text(got) != s || !lamp.May(got)) {
		t.Errorf("%q comes back as %q", s, lamp.Text(got))
	}
}

// clashed asks whether a row clashes.
func clashed(t *testing.T, p api.Plan, l []int) {
	t.Helper()
	if got := lamp.Clash(p, l); got != clash(p, l) {
		t.Errorf("%v, %v clashes: %v", p, l, got)
	}
}

// one is the plan of the chapter's example.
func one() api.Plan {
	return api.Plan{M: []int{2, 1}, S: []api.Stage{{G: 1, Min: 5, Max: 9}, {G: 2, Min: 7, Max: 8}}, Amber: 3, Red: 2, Hold: 4}
}

// three has groups that are in several stages, some of several groups.
func three() api.Plan {
	return api.Plan{M: []int{2, 1, 0}, S: []api.Stage{{G: 1, Min: 9, Max: 9}, {G: 6, Min: 7, Max: 8}, {G: 4, Min: 3, Max: 200}, {G: 5, Min: 11, Max: 12}}, Amber: 200, Red: 1, Hold: 300}
}

// drawn is a plan that fits, by chance.
func drawn(chance *rand.Rand) api.Plan {
	count := 1 + chance.Intn(8)
	p := api.Plan{M: make([]int, count), Amber: 1 + chance.Intn(200), Red: 1 + chance.Intn(200), Hold: chance.Intn(301)}
	for i := range p.M {
		for j := range i {
			if chance.Intn(4) == 0 {
				p.M[i] |= 1 << j
				p.M[j] |= 1 << i
			}
		}
	}
	for !plan.Fit(p) {
		p.S = make([]api.Stage, 2+chance.Intn(5))
		for k := range p.S {
			low := 1 + chance.Intn(200)
			p.S[k] = api.Stage{G: group.Sets(p.M)[chance.Intn(len(group.Sets(p.M)))], Min: low, Max: low + chance.Intn(201-low)}
			// Some have fewer groups than might be green together.
			if less := p.S[k].G & chance.Intn(256); less != 0 && chance.Intn(2) == 0 {
				p.S[k].G = less
			}
		}
		// Too many may conflict for so few stages.
		if i := chance.Intn(count); !plan.Fit(p) {
			p.M[i] = 0
			for j := range p.M {
				p.M[j] &^= 1 << i
			}
		}
	}
	return p
}

// wrong are plans that do not fit, each for another cause.
func wrong() []api.Plan {
	l := []api.Plan{{}}
	for _, change := range []func(p *api.Plan){
		func(p *api.Plan) { p.M = nil },
		func(p *api.Plan) { p.M = p.M[:1] },
		func(p *api.Plan) { p.M = append(p.M, 0) },
		func(p *api.Plan) { p.M = make([]int, 9) },
		func(p *api.Plan) { p.M[0] = 0 },
		func(p *api.Plan) { p.M[0] = 3 },
		func(p *api.Plan) { p.M[1] = -1 },
		func(p *api.Plan) { p.S = nil },
		func(p *api.Plan) { p.S = p.S[:1] },
		func(p *api.Plan) { p.S = slices.Repeat(p.S, 4) },
		func(p *api.Plan) { p.S[0].G = 0 },
		func(p *api.Plan) { p.S[1].G = 3 },
		func(p *api.Plan) { p.S[1].G = 4 },
		func(p *api.Plan) { p.S[0].G = -1 },
		func(p *api.Plan) { p.S[0].G = math.MaxInt },
		func(p *api.Plan) { p.S[0].Min = 0 },
		func(p *api.Plan) { p.S[1].Max = 6 },
		func(p *api.Plan) { p.S[1].Max = 201 },
		func(p *api.Plan) { p.Amber = 0 },
		func(p *api.Plan) { p.Amber = 201 },
		func(p *api.Plan) { p.Red = 0 },
		func(p *api.Plan) { p.Hold = -1 },
		func(p *api.Plan) { p.Hold = 301 },
	} {
		p := one()
		change(&p)
		l = append(l, p)
	}
	return l
}

// rows hands on all rows of so many, each from below what it may be to above it.
func rows(count int, ask func(l []int)) {
	all := 1
	for range count {
		all *= 5
	}
	for at := range all {
		l := make([]int, count)
		for i := range l {
			l[i] = at%5 - 1
			at /= 5
		}
		ask(l)
	}
}

// TestLimits: the limits and numbers that the chapter names.
func TestLimits(t *testing.T) {
	if api.MaxGroups != 8 || api.Lamps != 3 || api.Phases != 3 {
		t.Error("limits")
	}
	if api.LpRed != 0 || api.LpAmber != 1 || api.LpGreen != 2 || api.PhGreen != 0 || api.PhAmber != 1 || api.PhRed != 2 {
		t.Error("numbers")
	}
}

// TestExample: P15.1 and P15.2, the chapter's example, and a plan whose groups are in several stages.
func TestExample(t *testing.T) {
	for _, x := range []struct {
		p     api.Plan
		stage int
		texts []string
	}{
		{one(), 0, []string{"gr", "ar", "rr"}},
		{one(), 1, []string{"rg", "ra", "rr"}},
		{three(), 0, []string{"grr", "arr", "rrr"}},
		{three(), 1, []string{"rgg", "raa", "rrr"}},
		{three(), 2, []string{"rrg", "rra", "rrr"}},
		{three(), 3, []string{"grg", "ara", "rrr"}},
	} {
		shown(t, x.p)
		for phase, s := range x.texts {
			l := lamp.Show(x.p, x.stage, phase)
			if back, is := lamp.Read(s); lamp.Text(l) != s || !is || !slices.Equal(back, l) || lamp.Clash(x.p, l) {
				t.Errorf("stage %d, phase %d: %v", x.stage, phase, l)
			}
		}
	}
}

// TestShowNone: P15.1, nothing of a plan that does not fit, nor of a stage or a phase that there is not.
func TestShowNone(t *testing.T) {
	none := func(p api.Plan, stage, phase int) {
		t.Helper()
		if got := lamp.Show(p, stage, phase); len(got) != 0 {
			t.Errorf("%v: stage %d, phase %d: %v", p, stage, phase, got)
		}
	}
	for i, p := range wrong() {
		if plan.Fit(p) {
			t.Error(i)
		}
		shown(t, p)
		for stage := range 9 {
			for phase := range 3 {
				none(p, stage, phase)
			}
		}
	}
	for _, p := range []api.Plan{one(), three()} {
		for _, n := range wide() {
			none(p, 0, n)
			none(p, len(p.S), n)
			for phase := range 3 {
				if n < 0 || n >= len(p.S) {
					none(p, n, phase)
				}
			}
		}
		for phase := range 3 {
			none(p, len(p.S), phase)
			none(p, -1, phase)
		}
	}
}

// TestShowEdges: P15.1, one group and eight, two stages and six, and sets of each of the groups.
func TestShowEdges(t *testing.T) {
	lone := api.Plan{M: []int{0}, S: []api.Stage{{G: 1, Min: 1, Max: 1}, {G: 1, Min: 1, Max: 1}}, Amber: 1, Red: 1}
	shown(t, lone)
	if lamp.Text(lamp.Show(lone, 1, api.PhGreen)) != "g" || lamp.Text(lamp.Show(lone, 0, api.PhAmber)) != "a" || lamp.Text(lamp.Show(lone, 0, api.PhRed)) != "r" {
		t.Error("one group")
	}
	p := api.Plan{M: make([]int, 8), S: slices.Repeat([]api.Stage{{G: 255, Min: 200, Max: 200}}, 6), Amber: 200, Red: 200, Hold: 300}
	for set := 1; set < 256; set++ {
		p.S[4].G = set
		shown(t, p)
	}
	p.S[5].G = 0x91
	if lamp.Text(lamp.Show(p, 5, api.PhGreen)) != "grrrgrrg" || lamp.Text(lamp.Show(p, 5, api.PhAmber)) != "arrrarra" || lamp.Text(lamp.Show(p, 0, api.PhGreen)) != "gggggggg" {
		t.Error("eight groups")
	}
}

// TestMay: P15.2 and P15.4, all rows of up to five, from below what they may be to above it, and from none to many.
func TestMay(t *testing.T) {
	for count := range 6 {
		rows(count, func(l []int) { rowed(t, l) })
	}
	for count := range 40 {
		for what := -1; what < 4; what++ {
			l := slices.Repeat([]int{what}, count)
			rowed(t, l)
			if got := lamp.May(l); got != (count >= 1 && count <= 8 && what >= 0 && what <= 2) {
				t.Errorf("%v may be: %v", l, got)
			}
		}
	}
	for _, count := range []int{1 << 8, 1<<8 + 1, 1<<8 + 8, 1<<16 + 1, 1<<16 + 8} {
		if l := make([]int, count); lamp.May(l) || lamp.Text(l) != "" {
			t.Errorf("%d may be", count)
		}
	}
}

// TestMayWide: P15.2, one that a lamp can't show, at each place.
func TestMayWide(t *testing.T) {
	for count := 1; count <= 8; count++ {
		for i := range count {
			for _, n := range wide() {
				l := slices.Repeat([]int{2, 0, 1}, 3)[:count]
				l[i] = n
				if rowed(t, l); lamp.May(l) || lamp.Text(l) != "" {
					t.Errorf("%v may be", l)
				}
			}
		}
	}
}

// TestRead: P15.2 and P15.4, all texts of up to nine letters, and of two of each byte.
func TestRead(t *testing.T) {
	var ask func(s string)
	ask = func(s string) {
		spelled(t, s)
		if len(s) < 9 {
			ask(s + "r")
			ask(s + "a")
			ask(s + "g")
		}
	}
	ask("")
	for a := range 256 {
		spelled(t, string([]byte{byte(a)}))
		for b := range 256 {
			spelled(t, string([]byte{byte(a), byte(b)}))
		}
	}
	for s, want := range map[string][]int{"r": {0}, "a": {1}, "g": {2}, "rag": {0, 1, 2}, "gar": {2, 1, 0}, "aarrggra": {1, 1, 0, 0, 2, 2, 0, 1}} {
		if got, is := lamp.Read(s); !is || !slices.Equal(got, want) || lamp.Text(want) != s {
			t.Errorf("%q is %v, %v", s, got, is)
		}
	}
}

// TestReadWrong: P15.2 and R4, texts that are no row's: other letters at each place, runes of several bytes, bytes that are no rune's, and too many letters.
func TestReadWrong(t *testing.T) {
	wrong := []string{"", "R", "A", "G", "x", "0", "1", "2", " ", "\n", "\x00", "\x01", "\x02", "b", "q", "s", "f", "h", "ä", "ŕ", "\u0172", "\u0161", "\u0167", "\u0561", "ｒ", "ａ", "ｇ", "\U00010072", "\U00010061", "\ufffd", "\xff", "\xc3", "\xf2", "\xe1", "\xe7", "\xc1\xb2", "\xe0\x81\xa1", "red", "r,a", "[0]"}
	for _, odd := range wrong {
		if l, is := lamp.Read(odd); is || len(l) != 0 {
			t.Errorf("%q is %v", odd, l)
		}
		for i := range 9 {
			for _, rest := range []string{"garragrg", "rrrrrrrr", "gggggggg"} {
				s := rest[:i] + odd + rest[i:]
				if l, is := lamp.Read(s); odd != "" && (is || len(l) != 0) {
					t.Errorf("%q is %v", s, l)
				}
				if i+len(odd) <= 8 {
					spelled(t, rest[:i]+odd+rest[i+len(odd):])
				}
				spelled(t, rest[:i]+odd)
			}
		}
	}
	for _, n := range []int{9, 10, 16, 100, 1 << 8, 1<<8 + 1, 1<<16 + 8} {
		for _, letter := range []string{"r", "a", "g", "x"} {
			if l, is := lamp.Read(strings.Repeat(letter, n)); is || len(l) != 0 {
				t.Errorf("%d times %s is %v", n, letter, l)
			}
		}
	}
}

// TestClash: P15.3, all matrices of up to three groups with all rows of up to four, from below what they may be to above it.
func TestClash(t *testing.T) {
	p := api.Plan{Amber: 3, Red: 2}
	for count := range 4 {
		for at := range 1 << (count * (count - 1) / 2) {
			p.M, p.S = make([]int, count), nil
			for i := range count {
				for j := range i {
					p.M[i] |= at & 1 << j
					p.M[j] |= at & 1 << i
					at /= 2
				}
				p.S = append(p.S, api.Stage{G: 1 << i, Min: 1, Max: 2})
			}
			if count == 1 {
				p.S = append(p.S, p.S[0])
			}
			if plan.Fit(p) != (count > 0) {
				t.Error(p)
			}
			for many := range 5 {
				rows(many, func(l []int) { clashed(t, p, l) })
			}
		}
	}
}

// TestClashEach: P15.3, each two of eight groups, which conflict or not, and show anything.
func TestClashEach(t *testing.T) {
	for i := range 8 {
		for j := range i {
			p := api.Plan{M: make([]int, 8), S: []api.Stage{{G: 255 - 1<<i, Min: 1, Max: 2}, {G: 255 - 1<<j, Min: 1, Max: 2}}, Amber: 3, Red: 2}
			p.M[i], p.M[j] = 1<<j, 1<<i
			for at := range 27 {
				l := slices.Repeat([]int{at / 9}, 8)
				l[i], l[j] = at%3, at/3%3
				if got := lamp.Clash(p, l); got != (l[i] != 0 && l[j] != 0) {
					t.Errorf("%d and %d conflict, %v clashes: %v", i, j, l, got)
				}
			}
			p.M[i], p.M[j] = 0, 0
			if lamp.Clash(p, slices.Repeat([]int{2}, 8)) {
				t.Errorf("%d and %d clash", i, j)
			}
		}
	}
}

// TestClashWrong: P15.3, plans that do not fit, rows that may not be, and rows of another length.
func TestClashWrong(t *testing.T) {
	p := one()
	for _, l := range [][]int{{2, 2}, {2, 1}, {1, 2}, {1, 1}} {
		if !lamp.Clash(p, l) {
			t.Error(l)
		}
		for i, bad := range wrong() {
			if lamp.Clash(bad, l) || lamp.Clash(bad, append(slices.Clone(l), 2)) || lamp.Clash(bad, l[:1]) || lamp.Clash(bad, slices.Repeat(l, 4)) {
				t.Errorf("plan %d, %v", i, l)
			}
		}
		for _, n := range wide() {
			if lamp.Clash(p, []int{n, l[1]}) || lamp.Clash(p, []int{l[0], n}) || lamp.Clash(p, []int{n, n}) {
				t.Errorf("%d", n)
			}
		}
		for count := range 40 {
			if long := slices.Repeat(l, 20)[:count]; lamp.Clash(p, long) != (count == 2) {
				t.Errorf("%v clashes", long)
			}
		}
		if lamp.Clash(three(), l) || !lamp.Clash(three(), append(slices.Clone(l), 0)) || lamp.Clash(three(), append(slices.Clone(l), 3)) || lamp.Clash(three(), append([]int{0}, l...)) {
			t.Errorf("%v, of three", l)
		}
	}
	if lamp.Clash(p, nil) || lamp.Clash(p, []int{}) || lamp.Clash(api.Plan{}, nil) {
		t.Error("none")
	}
}

// TestChance: P15.1 to P15.4, plans by chance: what is shown never clashes, and comes back from its text.
func TestChance(t *testing.T) {
	chance := rand.New(rand.NewSource(1))
	clashes := 0
	for range 3000 {
		p := drawn(chance)
		shown(t, p)
		for stage := range p.S {
			for phase := range 3 {
				l := lamp.Show(p, stage, phase)
				if back, is := lamp.Read(lamp.Text(l)); lamp.Clash(p, l) || !lamp.May(l) || len(l) != len(p.M) || !is || !slices.Equal(back, l) {
					t.Errorf("%v: stage %d, phase %d: %v", p, stage, phase, l)
				}
			}
		}
		for range 10 {
			l := make([]int, len(p.M)+chance.Intn(20)/19)
			for i := range l {
				l[i] = max(0, chance.Intn(6)-3) + chance.Intn(200)/199
			}
			rowed(t, l)
			if clashed(t, p, l); clash(p, l) {
				clashes++
			}
		}
		s := make([]byte, chance.Intn(11))
		for i := range s {
			s[i] = "ragragragragragragragragragx"[chance.Intn(28)]
		}
		spelled(t, string(s))
	}
	if clashes < 1000 || clashes > 20000 {
		t.Errorf("%d clash", clashes)
	}
}

// behind is a row with marks in memory behind what it has.
func behind(l []int) []int {
	return append(slices.Clone(l), slices.Repeat([]int{1000}, 9)...)[:len(l)]
}

// kept tells whether a row that behind answered still is that one, also in the memory behind.
func kept(l, was []int) bool {
	return slices.Equal(l[:len(l)+9], behind(was)[:len(was)+9])
}

// TestOwn: R3, what is handed in stays as it was, also in the memory behind.
func TestOwn(t *testing.T) {
	stages := slices.Repeat([]api.Stage{{G: 1000, Min: 1000, Max: 1000}}, 9)
	for _, was := range append(wrong(), one(), three()) {
		p := was
		p.M, p.S = behind(was.M), append(slices.Clone(was.S), stages...)[:len(was.S)]
		for _, row := range [][]int{nil, {2}, {2, 1}, {2, 0, 1}, {0, 2, 3}, {2, 2, 2}} {
			l := behind(row)
			for stage := -1; stage < 5; stage++ {
				for phase := -1; phase < 4; phase++ {
					lamp.Show(p, stage, phase)
				}
			}
			lamp.May(l)
			lamp.Text(l)
			lamp.Clash(p, l)
			if !plan.Same(p, was) || !kept(p.M, was.M) || !slices.Equal(p.S[:len(p.S)+9][len(p.S):], stages) || !kept(l, row) {
				t.Errorf("%v, %v are changed", was, row)
			}
		}
	}
}

// TestOwnAnswers: R3, what is answered is the caller's own.
func TestOwnAnswers(t *testing.T) {
	p := three()
	for phase := range 3 {
		l := lamp.Show(p, 3, phase)
		want := slices.Clone(l)
		other := lamp.Show(p, 3, phase)
		for i := range l {
			l[i] = 7
		}
		l = append(l, 7)
		if !slices.Equal(other, want) || !slices.Equal(lamp.Show(p, 3, phase), want) || !plan.Same(p, three()) || l[3] != 7 {
			t.Errorf("phase %d: %v", phase, other)
		}
	}
	l, _ := lamp.Read("ragrag")
	other, _ := lamp.Read("ragrag")
	for i := range l {
		l[i] = 7
	}
	back, _ := lamp.Read("ragrag")
	if want := []int{0, 1, 2, 0, 1, 2}; !slices.Equal(other, want) || !slices.Equal(back, want) {
		t.Error(other, back)
	}
}

// TestAgain: R5, nothing hangs on what was asked before, nor on who else asks: several ask at one time.
func TestAgain(t *testing.T) {
	chance := rand.New(rand.NewSource(2))
	plans := append(wrong(), one(), three())
	for range 50 {
		plans = append(plans, drawn(chance))
	}
	texts := []string{"", "rag", "gr", "grx", "rrrrrrrrr"}
	var asks sync.WaitGroup
	for range 4 {
		asks.Go(func() {
			for range 3 {
				for _, p := range plans {
					shown(t, p)
				}
				for _, s := range texts {
					spelled(t, s)
				}
				rowed(t, []int{2, 0, 1})
				rowed(t, []int{2, 0, 3})
			}
		})
	}
	asks.Wait()
}
