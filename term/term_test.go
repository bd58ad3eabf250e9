package term_test

import (
	"math"
	"math/rand"
	"slices"
	"strconv"
	"strings"
	"testing"

	"pelican/api"
	"pelican/term"
)

func word(n int) api.Term { return api.Term{Kind: 0, N: n} }

func key(n int) api.Term { return api.Term{Kind: 1, N: n} }

func pair(a, b api.Term) api.Term { return api.Term{Kind: 2, Args: []api.Term{a, b}} }

func tag(a, b api.Term) api.Term { return api.Term{Kind: 3, Args: []api.Term{a, b}} }

// spelt is a term as a text: two are the same just if their texts are.
func spelt(t api.Term) string {
	var s strings.Builder
	var spell func(t api.Term)
	spell = func(t api.Term) {
		s.WriteString(strconv.Itoa(t.Kind) + ":" + strconv.Itoa(t.N) + "(")
		for _, a := range t.Args {
			spell(a)
		}
		s.WriteString(")")
	}
	spell(t)
	return s.String()
}

// sized is how many nodes, and how many levels, a term's text has.
func sized(t api.Term) (size, depth int) {
	open := 0
	for _, r := range spelt(t) {
		switch r {
		case '(':
			size++
			open++
			depth = max(depth, open)
		case ')':
			open--
		}
	}
	return size, depth
}

// nodes are pointers to all nodes of a term, from the top on.
func nodes(t *api.Term) []*api.Term {
	l := []*api.Term{t}
	for i := 0; i < len(l); i++ {
		for j := range l[i].Args {
			l = append(l, &l[i].Args[j])
		}
	}
	return l
}

// mayBe tells it by the chapter's words.
func mayBe(t api.Term) bool {
	for _, x := range nodes(&t) {
		one := (x.Kind == 0 || x.Kind == 1) && x.N >= 0 && len(x.Args) == 0
		two := (x.Kind == 2 || x.Kind == 3) && x.N == 0 && len(x.Args) == 2
		if !one && !two {
			return false
		}
	}
	size, depth := sized(t)
	return size <= 60 && depth <= 12
}

// rowSpelt is the text of the row of l, which has one number or more.
func rowSpelt(l []int) string {
	var s strings.Builder
	for i, n := range l {
		if i < len(l)-1 {
			s.WriteString("2:0(")
		}
		s.WriteString("0:" + strconv.Itoa(n) + "()")
	}
	return s.String() + strings.Repeat(")", len(l)-1)
}

// words are the numbers of what has no Args in a term, in order: if it is a row, then of these.
func words(t api.Term) []int {
	if len(t.Args) == 0 {
		return []int{t.N}
	}
	var l []int
	for _, a := range t.Args {
		l = append(l, words(a)...)
	}
	return l
}

// held holds the calls that are given one term against the chapter's words.
func held(t *testing.T, x api.Term) {
	t.Helper()
	size, depth := sized(x)
	if n := term.Size(x); n != size {
		t.Errorf("the size of %s: %d, not %d", spelt(x), n, size)
	}
	if n := term.Depth(x); n != depth {
		t.Errorf("the depth of %s: %d, not %d", spelt(x), n, depth)
	}
	if is := term.May(x); is != mayBe(x) {
		t.Errorf("%s may be: %v", spelt(x), is)
	}
	if own := term.Own(x); spelt(own) != spelt(x) || !term.Same(own, x) {
		t.Errorf("%s of its own: %s", spelt(x), spelt(own))
	}
	want := words(x)
	isRow := len(want) <= 12 && slices.Min(want) >= 0 && rowSpelt(want) == spelt(x)
	l, is := term.Unrow(x)
	if is != isRow || is && !slices.Equal(l, want) || !is && len(l) != 0 {
		t.Errorf("the row %s: %v, %v", spelt(x), l, is)
	}
}

// edges are numbers that words and keys may have, and such as they may not.
func edges() []int {
	return []int{0, 1, 2, 11, 12, 13, 255, 256, 1 << 31, 1 << 32, 1 << 62, math.MaxInt, -1, -2, -256, -1 << 31, -1 << 32, math.MinInt, math.MinInt + 1}
}

// leaves are terms without Args, of all kinds and of some that are none.
func leaves() []api.Term {
	var l []api.Term
	for _, kind := range []int{-1, 0, 1, 2, 3, 4} {
		for _, n := range []int{-1, 0, 1} {
			l = append(l, api.Term{Kind: kind, N: n})
		}
	}
	return l
}

// drawn is a term by chance, of as many pairs and tags as told.
func drawn(chance *rand.Rand, inner int) api.Term {
	if inner == 0 {
		return []api.Term{word(chance.Intn(4)), word(chance.Int()), key(1 + chance.Intn(255))}[chance.Intn(3)]
	}
	first := chance.Intn(inner)
	if chance.Intn(3) == 0 {
		first = 0
	}
	a, b := drawn(chance, first), drawn(chance, inner-1-first)
	if chance.Intn(2) == 0 {
		return tag(a, b)
	}
	return pair(a, b)
}

// spoilt are a term's own copies, each with one thing of one node changed.
func spoilt(x api.Term) []api.Term {
	var l []api.Term
	for at := range nodes(&x) {
		for _, change := range []func(*api.Term){
			func(y *api.Term) { y.Kind++ },
			func(y *api.Term) { y.Kind-- },
			func(y *api.Term) { y.Kind = 3 - y.Kind },
			func(y *api.Term) { y.N++ },
			func(y *api.Term) { y.N = -1 - y.N },
			func(y *api.Term) { y.Args = append(y.Args, word(0)) },
			func(y *api.Term) { y.Args = append([]api.Term{word(0)}, y.Args...) },
			func(y *api.Term) { y.Args = append(y.Args, word(1), word(2)) },
			func(y *api.Term) { y.Args = y.Args[min(1, len(y.Args)):] },
			func(y *api.Term) { y.Args = y.Args[:max(0, len(y.Args)-1)] },
			func(y *api.Term) { y.Args = nil },
			func(y *api.Term) { slices.Reverse(y.Args) },
			func(y *api.Term) { *y = word(7) },
			func(y *api.Term) { *y = pair(*y, word(7)) },
		} {
			y := copied(x)
			change(nodes(&y)[at])
			l = append(l, y)
		}
	}
	return l
}

// copied is a term that shares nothing, made without the package.
func copied(x api.Term) api.Term {
	x.Args = slices.Clone(x.Args)
	for i := range x.Args {
		x.Args[i] = copied(x.Args[i])
	}
	return x
}

// chainOf are so many terms, one below the other, at the first or at the second place by turns that are told.
func chainOf(depth int, first func(level int) bool, make2 func(a, b api.Term) api.Term) api.Term {
	x := word(0)
	for level := range depth - 1 {
		if first(level) {
			x = make2(x, word(1))
		} else {
			x = make2(word(1), x)
		}
	}
	return x
}

// TestExample: P5.1 and P5.2, that of the chapter, and one of a tag.
func TestExample(t *testing.T) {
	x, is := term.Row([]int{1, 2})
	if !is || spelt(x) != "2:0(0:1()0:2())" || term.Size(x) != 3 || term.Depth(x) != 2 || !term.May(x) {
		t.Errorf("%s, %v", spelt(x), is)
	}
	y := tag(key(1), pair(word(5), pair(word(6), word(7))))
	if term.Size(y) != 7 || term.Depth(y) != 4 || !term.May(y) {
		t.Errorf("%d, %d, %v", term.Size(y), term.Depth(y), term.May(y))
	}
}

// TestSizeDepth: P5.1, terms of any number of Args, with the longest way down at each place.
func TestSizeDepth(t *testing.T) {
	for _, x := range []struct {
		t           api.Term
		size, depth int
	}{
		{api.Term{}, 1, 1},
		{key(3), 1, 1},
		{api.Term{Kind: -7, N: -7, Args: []api.Term{}}, 1, 1},
		{api.Term{Args: []api.Term{{}}}, 2, 2},
		{pair(word(1), word(2)), 3, 2},
		{pair(pair(word(1), word(2)), word(3)), 5, 3},
		{pair(word(1), pair(word(2), word(3))), 5, 3},
		{pair(pair(word(1), word(2)), pair(word(3), word(4))), 7, 3},
		{api.Term{Args: []api.Term{tag(word(1), tag(word(2), word(3))), {}, {}}}, 8, 4},
		{api.Term{Args: []api.Term{{}, tag(word(1), tag(word(2), word(3))), {}}}, 8, 4},
		{api.Term{Args: []api.Term{{}, {}, tag(word(1), tag(word(2), word(3)))}}, 8, 4},
		{api.Term{Kind: 9, Args: make([]api.Term, 1000)}, 1001, 2},
	} {
		if size, depth := term.Size(x.t), term.Depth(x.t); size != x.size || depth != x.depth {
			t.Errorf("%s: %d, %d", spelt(x.t), size, depth)
		}
		held(t, x.t)
	}
}

// TestSmall: P5.1 and P5.2, all terms of up to two levels, of up to three Args.
func TestSmall(t *testing.T) {
	all := leaves()
	rows := [][]api.Term{{}}
	for _, a := range all {
		rows = append(rows, []api.Term{a})
		for _, b := range all {
			rows = append(rows, []api.Term{a, b}, []api.Term{a, b, word(0)}, []api.Term{a, key(1), b})
		}
	}
	for _, top := range all {
		for _, args := range rows {
			held(t, api.Term{Kind: top.Kind, N: top.N, Args: args})
		}
	}
}

// TestMayNode: P5.1, the numbers, the kinds and the Args that a node may have, and those that it may not.
func TestMayNode(t *testing.T) {
	two := []api.Term{word(1), key(2)}
	for _, n := range edges() {
		for kind := -2; kind < 7; kind++ {
			leaf, inner := kind == 0 || kind == 1, kind == 2 || kind == 3
			if is := term.May(api.Term{Kind: kind, N: n}); is != (leaf && n >= 0) {
				t.Errorf("kind %d, %d: %v", kind, n, is)
			}
			if is := term.May(api.Term{Kind: kind, N: n, Args: two}); is != (inner && n == 0) {
				t.Errorf("kind %d, %d, of two: %v", kind, n, is)
			}
		}
		for _, kind := range edges() {
			held(t, api.Term{Kind: kind, N: n})
			held(t, pair(api.Term{Kind: kind, N: n}, word(1)))
			held(t, tag(word(1), api.Term{Kind: kind, N: n}))
		}
	}
	for kind := range 4 {
		for count := range 6 {
			x := api.Term{Kind: kind, Args: make([]api.Term, count)}
			if is := term.May(x); is != (kind < 2 && count == 0 || kind >= 2 && count == 2) {
				t.Errorf("kind %d, of %d: %v", kind, count, is)
			}
		}
	}
}

// TestMayPlace: P5.1, one node that may not be, wherever it stands, and terms by chance.
func TestMayPlace(t *testing.T) {
	chance := rand.New(rand.NewSource(1))
	for inner := range 14 {
		for range 4 {
			x := drawn(chance, inner)
			held(t, x)
			for _, y := range spoilt(x) {
				held(t, y)
			}
			for at := range nodes(&x) {
				y := copied(x)
				nodes(&y)[at].Kind = 4
				if term.May(y) {
					t.Errorf("%s may be", spelt(y))
				}
			}
		}
	}
	for range 3000 {
		held(t, drawn(chance, chance.Intn(36)))
	}
}

// TestMayDepth: P5.1, 12 levels and 13, on each side.
func TestMayDepth(t *testing.T) {
	for _, first := range []func(int) bool{
		func(int) bool { return true },
		func(int) bool { return false },
		func(level int) bool { return level%2 == 0 },
		func(level int) bool { return level == 5 },
	} {
		for _, make2 := range []func(a, b api.Term) api.Term{pair, tag} {
			for depth := 1; depth < 16; depth++ {
				x := chainOf(depth, first, make2)
				if is := term.May(x); is != (depth <= 12) || term.Depth(x) != depth {
					t.Errorf("depth %d: %v, %d", depth, is, term.Depth(x))
				}
				held(t, x)
			}
		}
	}
}

// TestMaySize: P5.1, 59 nodes, and 61 (of pairs and tags there is always an odd number).
func TestMaySize(t *testing.T) {
	full := word(0)
	for range 4 {
		full = pair(full, full)
	}
	fifteen := full.Args[0]
	for _, x := range []struct {
		t    api.Term
		size int
		want bool
	}{
		{pair(full, pair(fifteen, pair(word(1), pair(word(2), pair(word(3), pair(word(4), word(5))))))), 57, true},
		{pair(full, pair(fifteen, pair(pair(word(1), word(2)), pair(word(2), pair(word(3), pair(word(4), word(5))))))), 59, true},
		{pair(full, pair(fifteen, pair(pair(word(1), word(2)), pair(pair(word(2), word(0)), pair(word(3), pair(word(4), word(5))))))), 61, false},
		{pair(full, full), 63, false},
	} {
		if is := term.May(x.t); term.Size(x.t) != x.size || is != x.want {
			t.Errorf("size %d: %d, %v", x.size, term.Size(x.t), is)
		}
		held(t, x.t)
		held(t, tag(x.t.Args[1], x.t.Args[0]))
	}
}

// TestVast: R1 and P5.1, terms that are deep, or wide, or, by what they share, of more nodes than can be counted, or of nodes without end.
func TestVast(t *testing.T) {
	deep := chainOf(1<<16, func(level int) bool { return level%3 == 0 }, pair)
	wide := api.Term{Kind: 2, Args: make([]api.Term, 1<<18)}
	for i, x := range []struct {
		t           api.Term
		size, depth int
	}{{deep, 1<<17 - 1, 1 << 16}, {wide, 1<<18 + 1, 2}} {
		own := term.Own(x.t)
		if term.Size(x.t) != x.size || term.Depth(x.t) != x.depth || !term.Same(own, x.t) {
			t.Errorf("%d: %d, %d", i, term.Size(x.t), term.Depth(x.t))
		}
		if l, is := term.Unrow(x.t); term.May(x.t) || is || len(l) != 0 {
			t.Errorf("%d may be, or is a row of %v", i, l)
		}
	}
	shared := word(1)
	for range 500 {
		shared = pair(shared, shared)
	}
	bush := shared
	for range 11 {
		bush = tag(word(1), bush)
	}
	within := []api.Term{word(1), word(2)}
	within[1] = api.Term{Kind: 2, Args: within}
	around := []api.Term{word(1), word(2)}
	around[0] = api.Term{Kind: 2, Args: around}
	for i, x := range []api.Term{shared, bush, within[1], around[0], pair(word(1), within[1]), tag(key(1), around[0])} {
		if l, is := term.Unrow(x); term.May(x) || is || len(l) != 0 {
			t.Errorf("%d may be, or is a row of %v", i, l)
		}
		if term.Same(x, word(1)) || term.Same(pair(word(1), word(1)), x) {
			t.Errorf("%d is the same as another one", i)
		}
	}
	// Of 11 levels all nodes are 2047: too many, though it is not too deep.
	low := word(1)
	for range 10 {
		low = pair(low, low)
	}
	held(t, low)
}

// TestSame: P5.1, what is the same node by node, and what is not at one node.
func TestSame(t *testing.T) {
	chance := rand.New(rand.NewSource(2))
	for range 60 {
		x := drawn(chance, chance.Intn(12))
		if !term.Same(x, x) || !term.Same(x, copied(x)) {
			t.Errorf("%s is another one", spelt(x))
		}
		for _, y := range spoilt(x) {
			want := spelt(x) == spelt(y)
			if term.Same(x, y) != want || term.Same(y, x) != want {
				t.Errorf("%s and %s: %v, %v", spelt(x), spelt(y), term.Same(x, y), term.Same(y, x))
			}
		}
	}
	all := append(leaves(), pair(word(0), word(1)), pair(word(1), word(0)), tag(word(0), word(1)), pair(key(0), word(1)), pair(word(0), key(1)), api.Term{Args: []api.Term{word(0), word(1)}}, api.Term{Kind: 2, Args: []api.Term{word(0)}}, api.Term{Kind: 2, Args: []api.Term{word(0), word(1), word(2)}})
	for i, x := range all {
		for j, y := range all {
			if is := term.Same(x, y); is != (i == j) {
				t.Errorf("%s and %s: %v", spelt(x), spelt(y), is)
			}
		}
	}
	// A list without elements may be nil or empty (R6).
	if !term.Same(word(1), api.Term{N: 1, Args: []api.Term{}}) || !term.Same(api.Term{N: 1, Args: []api.Term{}}, word(1)) {
		t.Error("no Args, and none")
	}
}

// TestSameSized: P5.3, what is the same has the same size and depth, and may be, or may not, alike.
func TestSameSized(t *testing.T) {
	chance := rand.New(rand.NewSource(3))
	for range 2000 {
		x, y := drawn(chance, chance.Intn(3)), drawn(chance, chance.Intn(3))
		if chance.Intn(2) == 0 {
			y = copied(x)
		}
		if term.Same(x, y) && (term.Size(x) != term.Size(y) || term.Depth(x) != term.Depth(y) || term.May(x) != term.May(y)) {
			t.Errorf("%s and %s", spelt(x), spelt(y))
		}
	}
}

// TestOwn: P5.1 and R3, nothing of what is answered is shared, neither with what was handed in nor within it.
func TestOwn(t *testing.T) {
	chance := rand.New(rand.NewSource(4))
	for range 200 {
		x := drawn(chance, chance.Intn(12))
		was := spelt(x)
		own := term.Own(x)
		for _, y := range nodes(&own) {
			y.Kind, y.N = -9, -9
			_ = append(y.Args, word(-9))
		}
		if spelt(x) != was {
			t.Errorf("%s is changed to %s", was, spelt(x))
		}
		own = term.Own(x)
		for _, y := range nodes(&x) {
			y.Kind, y.N = -9, -9
		}
		if spelt(own) != was {
			t.Errorf("%s of its own is changed to %s", was, spelt(own))
		}
	}
	one := pair(word(1), word(2))
	own := term.Own(api.Term{Kind: -5, N: 5, Args: []api.Term{one, one, one}})
	own.Args[0].Args[0].N = 9
	_ = append(own.Args[1].Args[:1], word(9))
	if spelt(own) != "-5:5(2:0(0:9()0:2())2:0(0:1()0:9())2:0(0:1()0:2()))" {
		t.Errorf("%s", spelt(own))
	}
	// What lies behind the Args in memory is none of the term.
	roomy := api.Term{Kind: 2, Args: []api.Term{word(1), word(2), word(3)}[:2]}
	own = term.Own(roomy)
	_ = append(own.Args, word(9))
	if spelt(own) != spelt(roomy) || roomy.Args[:3][2].N != 3 {
		t.Errorf("%s", spelt(own))
	}
}

// TestRow: P5.2 and P5.3, of one number to 12, with numbers at their edges, there and back.
func TestRow(t *testing.T) {
	chance := rand.New(rand.NewSource(5))
	for count := 1; count < 13; count++ {
		for range 50 {
			var l []int
			for range count {
				l = append(l, []int{chance.Intn(5), chance.Int(), 0, math.MaxInt, 1 << chance.Intn(63)}[chance.Intn(5)])
			}
			x, is := term.Row(l)
			if !is || spelt(x) != rowSpelt(l) || term.Size(x) != 2*count-1 || term.Depth(x) != count || !term.May(x) {
				t.Errorf("%v: %s, %v", l, spelt(x), is)
			}
			if back, is := term.Unrow(x); !is || !slices.Equal(back, l) {
				t.Errorf("%v: %v, %v", l, back, is)
			}
		}
	}
	three, is := term.Row([]int{5, 4, 3})
	if !is || !term.Same(three, pair(word(5), pair(word(4), word(3)))) {
		t.Errorf("%s, %v", spelt(three), is)
	}
}

// TestRowWrong: P5.2, none, more than 12, and one below 0 at each place.
func TestRowWrong(t *testing.T) {
	refused := func(l []int) {
		t.Helper()
		if x, is := term.Row(l); is || spelt(x) != spelt(api.Term{}) {
			t.Errorf("%v: %s, %v", l, spelt(x), is)
		}
	}
	refused(nil)
	refused([]int{})
	for _, count := range []int{13, 14, 24, 25, 256, 257, 1 << 16, 1<<16 + 1} {
		refused(make([]int, count))
		refused(slices.Repeat([]int{-1}, count))
	}
	for count := 1; count < 13; count++ {
		for at := range count {
			for _, n := range []int{-1, -2, -256, -1 << 32, math.MinInt, math.MinInt + 1} {
				l := slices.Repeat([]int{3}, count)
				l[at] = n
				refused(l)
			}
		}
	}
}

// TestUnrow: P5.2, rows with one node of them changed, too long ones, and terms that are none.
func TestUnrow(t *testing.T) {
	for count := 1; count < 13; count++ {
		l := make([]int, count)
		for i := range l {
			l[i] = 10 + i
		}
		x, _ := term.Row(l)
		held(t, x)
		for _, y := range spoilt(x) {
			held(t, y)
		}
	}
	for depth := 1; depth < 30; depth++ {
		x := chainOf(depth, func(int) bool { return false }, pair)
		if l, is := term.Unrow(x); is != (depth <= 12) || is && len(l) != depth || !is && len(l) != 0 {
			t.Errorf("of %d: %v, %v", depth, l, is)
		}
	}
	for _, x := range []api.Term{
		key(1), tag(word(1), word(2)), pair(key(1), word(2)), pair(word(1), key(2)), word(-1),
		pair(pair(word(1), word(2)), word(3)),
		pair(word(1), pair(pair(word(2), word(3)), word(4))),
		pair(word(1), tag(word(2), word(3))),
		{Kind: 2}, {Kind: 2, N: 1, Args: []api.Term{word(1), word(2)}}, {Args: []api.Term{word(1), word(2)}},
		pair(word(1), api.Term{Kind: 2, N: 1, Args: []api.Term{word(2), word(3)}}),
		pair(word(1), api.Term{Kind: 2, Args: []api.Term{word(2)}}),
		pair(word(1), api.Term{Kind: 2, Args: []api.Term{word(2), word(3), word(4)}}),
		pair(word(1), api.Term{N: 2, Args: []api.Term{word(2)}}),
	} {
		if l, is := term.Unrow(x); is || len(l) != 0 {
			t.Errorf("%s: %v", spelt(x), l)
		}
		held(t, x)
	}
}

// TestShared: R3 and R5, what is handed in stays, what is answered is the caller's own, and nothing hangs on what was asked before.
func TestShared(t *testing.T) {
	l := append(make([]int, 0, 20), 4, 5, 6, 7)
	lWas := slices.Clone(l[:20])
	x, _ := term.Row(l)
	was := spelt(x)
	if !slices.Equal(l[:20], lWas) {
		t.Errorf("the numbers are changed: %v", l[:20])
	}
	clear(l[:20])
	if spelt(x) != was {
		t.Errorf("the row is changed: %s", spelt(x))
	}
	m, _ := term.Unrow(x)
	term.Size(x)
	term.Depth(x)
	term.May(x)
	term.Same(x, x)
	if spelt(x) != was {
		t.Errorf("what is handed in is changed: %s", spelt(x))
	}
	clear(m)
	if m, is := term.Unrow(x); spelt(x) != was || !is || !slices.Equal(m, lWas[:4]) {
		t.Errorf("the numbers are shared: %v", m)
	}
	for _, y := range nodes(&x) {
		y.Kind, y.N = -9, -9
		_ = append(y.Args, word(-9))
	}
	if y, is := term.Row(lWas[:4]); !is || spelt(y) != was {
		t.Errorf("two rows share: %s", spelt(y))
	}
}
