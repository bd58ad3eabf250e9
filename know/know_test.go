package know_test

import (
	"math"
	"math/rand"
	"slices"
	"strconv"
	"strings"
	"testing"

	"pelican/api"
	"pelican/know"
)

func word(n int) api.Term { return api.Term{Kind: 0, N: n} }

func key(n int) api.Term { return api.Term{Kind: 1, N: n} }

func pair(a, b api.Term) api.Term { return api.Term{Kind: 2, Args: []api.Term{a, b}} }

func tag(a, b api.Term) api.Term { return api.Term{Kind: 3, Args: []api.Term{a, b}} }

// spelt is a term as a text: two are the same just if their texts are.
func spelt(t api.Term) string {
	var s strings.Builder
	var spell func(t api.Term)
	spell = func(t api.Term) {
		s.WriteString(strconv.Itoa(t.Kind) + ":" + strconv.Itoa(t.N) + "(")
		for _, a := range t.Args {
			spell(a)
		}
		s.WriteString(")")
	}
	spell(t)
	return s.String()
}

// listed are the texts of a list, in order.
func listed(l []api.Term) []string {
	var texts []string
	for _, x := range l {
		texts = append(texts, spelt(x))
	}
	return texts
}

// nodes are pointers to all nodes of a term, from the top on.
func nodes(t *api.Term) []*api.Term {
	l := []*api.Term{t}
	for i := 0; i < len(l); i++ {
		for j := range l[i].Args {
			l = append(l, &l[i].Args[j])
		}
	}
	return l
}

// copied is a term that shares nothing, made without the packages.
func copied(x api.Term) api.Term {
	x.Args = slices.Clone(x.Args)
	for i := range x.Args {
		x.Args[i] = copied(x.Args[i])
	}
	return x
}

// copies are a list's own terms.
func copies(l []api.Term) []api.Term {
	var own []api.Term
	for _, x := range l {
		own = append(own, copied(x))
	}
	return own
}

// partTexts are the texts of the parts of each of l by the chapter's words: first all of them, then each once.
func partTexts(l []api.Term) []string {
	var all, once []string
	var of func(t api.Term)
	of = func(t api.Term) {
		all = append(all, spelt(t))
		if t.Kind == 2 {
			of(t.Args[0])
			of(t.Args[1])
		}
	}
	for _, x := range l {
		of(x)
	}
	for i, text := range all {
		if slices.Index(all, text) == i {
			once = append(once, text)
		}
	}
	return once
}

// isMade tells whether t is made of what has these parts: what is in it is put together as long as there is more of it.
func isMade(parts []string, t api.Term) bool {
	made := map[string]bool{}
	for _, text := range parts {
		made[text] = true
	}
	all := nodes(&t)
	for more := true; more; {
		more = false
		for _, x := range all {
			text := spelt(*x)
			can := x.Kind == 0 || x.Kind >= 2 && made[spelt(x.Args[0])] && made[spelt(x.Args[1])]
			if can && !made[text] {
				made[text], more = true, true
			}
		}
	}
	return made[spelt(t)]
}

// lackTexts are the texts of the keys in t, from the left, that neither are parts nor stand in one, each once.
func lackTexts(parts []string, t api.Term) []string {
	var l []string
	var of func(t api.Term, inside bool)
	of = func(t api.Term, inside bool) {
		text := spelt(t)
		inside = inside || slices.Contains(parts, text)
		if t.Kind == 1 && !inside && !slices.Contains(l, text) {
			l = append(l, text)
		}
		for _, a := range t.Args {
			of(a, inside)
		}
	}
	of(t, false)
	return l
}

// held holds the calls that are given l, which may be, against the chapter's words, and those given l and each of ts, which may be.
func held(t *testing.T, l []api.Term, ts []api.Term) {
	t.Helper()
	if !know.May(l) {
		t.Errorf("%q may not be", listed(l))
	}
	parts := partTexts(l)
	if p := know.Parts(l); !slices.Equal(listed(p), parts) {
		t.Errorf("the parts of %q: %q", listed(l), listed(p))
	}
	for _, x := range ts {
		made, lacks := know.Makes(l, x), know.Lacks(l, x)
		if made != isMade(parts, x) {
			t.Errorf("%s is made of %q: %v", spelt(x), listed(l), made)
		}
		if !slices.Equal(listed(lacks), lackTexts(parts, x)) {
			t.Errorf("of %q, %s lacks %q", listed(l), spelt(x), listed(lacks))
		}
	}
}

// refused is that nothing comes of l and x, of which one may not be.
func refused(t *testing.T, l []api.Term, x api.Term) {
	t.Helper()
	if know.Makes(l, x) {
		t.Fatal("what may not be is made, or makes")
	}
	if k := know.Lacks(l, x); len(k) != 0 {
		t.Fatalf("what may not be lacks %q", listed(k))
	}
}

// low are all terms of up to two levels, of one word and two keys.
func low() []api.Term {
	leaves := []api.Term{word(1), key(1), key(2)}
	l := slices.Clone(leaves)
	for _, a := range leaves {
		for _, b := range leaves {
			l = append(l, pair(a, b), tag(a, b))
		}
	}
	return l
}

// middle are all terms of up to three levels, of one word and two keys.
func middle() []api.Term {
	l := low()
	for _, a := range low() {
		for _, b := range low() {
			if len(a.Args) > 0 || len(b.Args) > 0 {
				l = append(l, pair(a, b), tag(a, b))
			}
		}
	}
	return l
}

// drawn is a term by chance, of as many pairs and tags as told, at most.
func drawn(chance *rand.Rand, inner int) api.Term {
	if inner == 0 {
		return []api.Term{word(chance.Intn(3)), key(chance.Intn(4)), key(1 + chance.Intn(2))}[chance.Intn(3)]
	}
	first := chance.Intn(inner)
	a, b := drawn(chance, min(first, 8)), drawn(chance, min(inner-1-first, 8))
	if chance.Intn(2) == 0 {
		return tag(a, b)
	}
	return pair(a, b)
}

// drawnList are terms by chance, some of them again, or with one of them in a pair.
func drawnList(chance *rand.Rand, count int) []api.Term {
	var l []api.Term
	for range count {
		x := drawn(chance, chance.Intn(6))
		if len(l) > 0 && chance.Intn(4) == 0 {
			x = copied(l[chance.Intn(len(l))])
			if chance.Intn(2) == 0 {
				x = drawn(chance, 0)
			}
		}
		l = append(l, x)
	}
	return l
}

// drawnOf is a term by chance, with parts of l, and what is in them, in it.
func drawnOf(chance *rand.Rand, l []api.Term, inner int) api.Term {
	if inner == 0 {
		if len(l) == 0 || chance.Intn(3) == 0 {
			return drawn(chance, chance.Intn(2))
		}
		x := copied(l[chance.Intn(len(l))])
		all := nodes(&x)
		return *all[chance.Intn(len(all))]
	}
	a, b := drawnOf(chance, l, (inner-1)/2), drawnOf(chance, l, inner/2)
	if chance.Intn(2) == 0 {
		return tag(a, b)
	}
	return pair(a, b)
}

// wrongs are terms that may not be, each for another reason. Behind all others are those that nobody can go through: a call that took them would not end, so a test must fail, and stop, ahead of them.
func wrongs() []api.Term {
	deep, wide := word(1), word(1)
	for range 12 {
		deep = pair(word(1), deep)
	}
	for range 5 {
		wide = tag(wide, wide)
	}
	vast := word(1)
	for range 500 {
		vast = pair(vast, vast)
	}
	within := []api.Term{word(1), word(2)}
	within[1] = api.Term{Kind: 2, Args: within}
	l := []api.Term{deep, wide, word(-1), key(-1), word(math.MinInt), key(math.MinInt)}
	for _, kind := range []int{-1, 4, 5, 9, math.MaxInt, math.MinInt} {
		l = append(l, api.Term{Kind: kind}, api.Term{Kind: kind, Args: []api.Term{word(1), word(2)}})
	}
	for kind := range 4 {
		for count := range 4 {
			if kind < 2 && count > 0 || kind >= 2 && count != 2 {
				l = append(l, api.Term{Kind: kind, Args: make([]api.Term, count)})
			}
		}
	}
	for _, n := range []int{-1, 1, 2} {
		l = append(l, api.Term{Kind: 2, N: n, Args: []api.Term{word(1), word(2)}}, api.Term{Kind: 3, N: n, Args: []api.Term{key(1), word(2)}})
	}
	return append(l, vast, within[1])
}

// TestExample: P6.2, that of the chapter.
func TestExample(t *testing.T) {
	l := []api.Term{tag(key(1), word(5))}
	if x := tag(key(1), word(6)); know.Makes(l, x) || !slices.Equal(listed(know.Lacks(l, x)), []string{spelt(key(1))}) {
		t.Errorf("%v, %q", know.Makes(l, x), listed(know.Lacks(l, x)))
	}
	if x := tag(key(1), word(5)); !know.Makes(l, x) || len(know.Lacks(l, x)) != 0 {
		t.Errorf("%v, %q", know.Makes(l, x), listed(know.Lacks(l, x)))
	}
	l = append(l, key(1))
	if x := tag(key(1), word(6)); !know.Makes(l, x) || len(know.Lacks(l, x)) != 0 {
		t.Errorf("%v, %q", know.Makes(l, x), listed(know.Lacks(l, x)))
	}
}

// TestMay: P6.1, from none to 40 terms, and more, and one that may not be at each place.
func TestMay(t *testing.T) {
	if !know.May(nil) || !know.May([]api.Term{}) {
		t.Error("none")
	}
	chance := rand.New(rand.NewSource(1))
	for count := range 45 {
		l := drawnList(chance, count)
		if is := know.May(l); is != (count <= 40) {
			t.Errorf("%d: %v", count, is)
		}
		if is := know.May(make([]api.Term, count)); is != (count <= 40) {
			t.Errorf("%d of one: %v", count, is)
		}
		for at := range l {
			for _, bad := range wrongs() {
				spoilt := slices.Clone(l)
				spoilt[at] = bad
				if know.May(spoilt) {
					t.Fatalf("%d, with one at %d that may not be", count, at)
				}
			}
		}
	}
	for _, count := range []int{80, 128, 255, 256, 257, 296, 1 << 16, 1<<16 + 40} {
		if know.May(make([]api.Term, count)) {
			t.Errorf("%d may be", count)
		}
	}
	// Each may be, up to its own edges, however many nodes all have.
	deep, wide := word(1), word(1)
	for range 11 {
		deep = tag(deep, word(2))
	}
	for range 4 {
		wide = pair(wide, wide)
	}
	wide = pair(wide, tag(wide.Args[0], pair(pair(word(1), word(2)), pair(word(3), pair(pair(word(5), word(6)), word(4))))))
	held(t, append(slices.Repeat([]api.Term{deep}, 20), slices.Repeat([]api.Term{wide}, 20)...), []api.Term{deep, wide})
}

// TestSame: P6.1, one term more, one less, one that is another one, at each place, and another order.
func TestSame(t *testing.T) {
	if !know.Same(nil, nil) || !know.Same(nil, []api.Term{}) || !know.Same([]api.Term{}, nil) {
		t.Error("none")
	}
	chance := rand.New(rand.NewSource(2))
	for count := range 45 {
		l := drawnList(chance, count)
		if !know.Same(l, l) || !know.Same(l, copies(l)) {
			t.Errorf("%d: another one", count)
		}
		longer := append(slices.Clone(l), word(0))
		if know.Same(l, longer) || know.Same(longer, l) {
			t.Errorf("%d: one more", count)
		}
		for at := range l {
			all := nodes(&l[at])
			for i := range all {
				y := copies(l)
				nodes(&y[at])[i].N += 1 + chance.Intn(3)
				if know.Same(l, y) || know.Same(y, l) {
					t.Errorf("%q and %q", listed(l), listed(y))
				}
			}
			less := slices.Delete(slices.Clone(l), at, at+1)
			if know.Same(l, less) || know.Same(less, l) {
				t.Errorf("%d: one less", count)
			}
			y := slices.Clone(l)
			other := chance.Intn(count)
			y[at], y[other] = y[other], y[at]
			if want := slices.Equal(listed(l), listed(y)); know.Same(l, y) != want {
				t.Errorf("%q and %q: %v", listed(l), listed(y), !want)
			}
		}
	}
	// Lists that may not be are the same, or not, as others are.
	bad := []api.Term{{Kind: 9, N: -3, Args: []api.Term{word(1)}}, word(-1)}
	many := slices.Repeat(bad, 30)
	if !know.Same(bad, copies(bad)) || know.Same(bad, bad[:1]) || know.Same(bad, []api.Term{bad[1], bad[0]}) || !know.Same(many, copies(many)) || know.Same(many, many[1:]) {
		t.Error("of such as may not be")
	}
	// A list without elements may be nil or empty (R6).
	if !know.Same([]api.Term{word(1)}, []api.Term{{N: 1, Args: []api.Term{}}}) {
		t.Error("no Args, and none")
	}
}

// TestParts: P6.1, in order, each once, and a tag not opened.
func TestParts(t *testing.T) {
	a, b := pair(word(1), word(2)), pair(word(2), word(3))
	secret := tag(key(1), a)
	for _, x := range []struct{ l, parts []api.Term }{
		{nil, nil},
		{[]api.Term{word(1)}, []api.Term{word(1)}},
		{[]api.Term{key(1), word(1)}, []api.Term{key(1), word(1)}},
		{[]api.Term{secret}, []api.Term{secret}},
		{[]api.Term{a}, []api.Term{a, word(1), word(2)}},
		{[]api.Term{pair(a, b)}, []api.Term{pair(a, b), a, word(1), word(2), b, word(3)}},
		{[]api.Term{a, b, a, b}, []api.Term{a, word(1), word(2), b, word(3)}},
		{[]api.Term{pair(a, a)}, []api.Term{pair(a, a), a, word(1), word(2)}},
		{[]api.Term{word(2), a, pair(b, a)}, []api.Term{word(2), a, word(1), pair(b, a), b, word(3)}},
		{[]api.Term{pair(secret, a), key(1)}, []api.Term{pair(secret, a), secret, a, word(1), word(2), key(1)}},
		{[]api.Term{pair(key(1), pair(secret, key(2))), tag(a, b)}, []api.Term{pair(key(1), pair(secret, key(2))), key(1), pair(secret, key(2)), secret, key(2), tag(a, b)}},
		{[]api.Term{pair(word(1), word(1)), key(1)}, []api.Term{pair(word(1), word(1)), word(1), key(1)}},
	} {
		if p := know.Parts(x.l); !slices.Equal(listed(p), listed(x.parts)) {
			t.Errorf("the parts of %q: %q", listed(x.l), listed(p))
		}
	}
}

// TestMade: P6.2, what is told to be made by each of the words, and what a part hides.
func TestMade(t *testing.T) {
	secret := tag(key(1), word(5))
	for i, x := range []struct {
		l     []api.Term
		t     api.Term
		lacks []api.Term
	}{
		{nil, word(0), nil},
		{nil, word(math.MaxInt), nil},
		{nil, key(0), []api.Term{key(0)}},
		{nil, pair(word(1), tag(word(2), word(3))), nil},
		{nil, tag(word(1), word(2)), nil},
		{nil, pair(key(2), key(1)), []api.Term{key(2), key(1)}},
		{nil, pair(key(1), key(1)), []api.Term{key(1)}},
		{nil, pair(pair(key(1), key(2)), tag(key(2), key(1))), []api.Term{key(1), key(2)}},
		{nil, tag(word(1), key(math.MaxInt)), []api.Term{key(math.MaxInt)}},
		{[]api.Term{word(1)}, key(1), []api.Term{key(1)}},
		{[]api.Term{key(1)}, key(1), nil},
		{[]api.Term{key(1)}, tag(key(1), key(1)), nil},
		{[]api.Term{key(1)}, tag(key(1), key(2)), []api.Term{key(2)}},
		{[]api.Term{key(2)}, tag(key(1), key(2)), []api.Term{key(1)}},
		{[]api.Term{pair(word(1), key(1))}, key(1), nil},
		{[]api.Term{pair(word(1), pair(word(2), pair(key(1), word(2))))}, tag(word(1), key(1)), nil},
		{[]api.Term{secret}, key(1), []api.Term{key(1)}},
		{[]api.Term{tag(key(1), key(2))}, pair(key(2), tag(key(1), key(2))), []api.Term{key(2)}},
		{[]api.Term{tag(key(1), key(2))}, tag(key(2), key(1)), []api.Term{key(2), key(1)}},
		{[]api.Term{tag(key(1), pair(key(2), word(1)))}, pair(key(2), word(1)), []api.Term{key(2)}},
		{[]api.Term{secret}, pair(secret, tag(secret, secret)), nil},
		{[]api.Term{pair(secret, word(1))}, tag(secret, word(6)), nil},
		{[]api.Term{secret}, pair(key(1), secret), []api.Term{key(1)}},
		{[]api.Term{secret}, tag(secret, key(1)), []api.Term{key(1)}},
		{[]api.Term{secret}, pair(word(5), tag(key(1), word(4))), []api.Term{key(1)}},
		{[]api.Term{secret}, pair(key(1), word(5)), []api.Term{key(1)}},
		{[]api.Term{key(3)}, pair(tag(key(2), key(3)), pair(key(4), pair(key(2), key(1)))), []api.Term{key(2), key(4), key(1)}},
	} {
		lacks := know.Lacks(x.l, x.t)
		if made := know.Makes(x.l, x.t); made != (len(x.lacks) == 0) || !slices.Equal(listed(lacks), listed(x.lacks)) {
			t.Errorf("%d: %v, %q", i, made, listed(lacks))
		}
	}
}

// TestSmall: P6.1 and P6.2, of up to two known terms of up to two levels, all terms of up to two; of one of up to three, all of up to two.
func TestSmall(t *testing.T) {
	all := low()
	held(t, nil, middle())
	for _, a := range all {
		held(t, []api.Term{a}, middle())
		for _, b := range all {
			held(t, []api.Term{a, b}, all)
		}
	}
	for _, a := range middle() {
		held(t, []api.Term{a}, append([]api.Term{a, pair(a, key(2)), tag(a, a)}, all...))
	}
}

// TestDrawn: P6.1 and P6.2, terms by chance, of what is known and of what is not, from none known to 40.
func TestDrawn(t *testing.T) {
	chance := rand.New(rand.NewSource(3))
	for round := range 400 {
		l := drawnList(chance, round%8)
		if round%10 == 0 {
			l = drawnList(chance, round/10+1)
		}
		var ts []api.Term
		for range 20 {
			if x := drawnOf(chance, l, chance.Intn(5)); know.May([]api.Term{x}) {
				ts = append(ts, x)
			}
		}
		held(t, l, append(ts, l...))
	}
}

// TestFull: P6.1 and P6.2, 40 known terms of as many nodes as may be, no two parts of which are the same but words.
func TestFull(t *testing.T) {
	var l []api.Term
	count := 0
	var grown func(inner int) api.Term
	grown = func(inner int) api.Term {
		if inner == 0 {
			count++
			return key(count)
		}
		first := (inner - 1) / 2
		return pair(grown(first), grown(inner-1-first))
	}
	for range 40 {
		l = append(l, grown(29))
	}
	parts := know.Parts(l)
	if len(parts) != 40*59 || !slices.Equal(listed(parts), partTexts(l)) {
		t.Errorf("%d parts", len(parts))
	}
	x := tag(key(0), tag(l[39], key(count+1)))
	for _, i := range []int{0, 1, 20, 39} {
		if !know.Makes(l, l[i]) || !know.Makes(l, tag(key(count), l[i].Args[1])) {
			t.Errorf("%d is not made", i)
		}
	}
	if lacks := know.Lacks(l, x.Args[1].Args[1]); !slices.Equal(listed(lacks), []string{spelt(key(count + 1))}) {
		t.Errorf("%q", listed(lacks))
	}
	// It has more nodes than may be.
	refused(t, l, x)
	if all := know.Lacks(nil, l[1]); len(all) != 30 || all[0].N != 31 || all[29].N != 60 {
		t.Errorf("%q", listed(all))
	}
}

// TestWrong: P6.1 and P6.2, nothing comes of what is known, nor of a term, that may not be: not even a word, nor a part.
func TestWrong(t *testing.T) {
	ts := []api.Term{word(1), key(1), key(2), pair(word(1), word(2)), tag(key(1), key(2))}
	for _, bad := range wrongs() {
		for _, l := range [][]api.Term{{bad}, {key(1), bad}, {bad, key(1)}, {key(1), bad, pair(key(1), key(2))}, {pair(key(1), bad)}, {tag(bad, key(1))}} {
			if know.May(l) {
				t.Fatal("what may not be may be")
			}
			if p := know.Parts(l); len(p) != 0 {
				t.Fatalf("%d parts of what may not be", len(p))
			}
			for _, x := range append(ts, bad) {
				refused(t, l, x)
			}
		}
		for _, x := range []api.Term{bad, pair(bad, key(1)), pair(key(3), bad), tag(key(3), bad), tag(bad, word(1)), pair(key(3), pair(word(1), tag(key(3), bad)))} {
			for _, l := range [][]api.Term{nil, {}, {key(1)}, ts} {
				refused(t, l, x)
			}
		}
	}
	for _, count := range []int{40, 41, 42, 256, 296, 1 << 16} {
		l := make([]api.Term, count)
		l[0] = key(1)
		if p := know.Parts(l); len(p) != 0 != (count <= 40) {
			t.Errorf("of %d terms: %d parts", count, len(p))
		}
		if count > 40 {
			for _, x := range ts {
				refused(t, l, x)
			}
			continue
		}
		held(t, l, ts)
	}
}

// TestWrongNode: P6.1 and P6.2, one node that may not be, wherever it stands.
func TestWrongNode(t *testing.T) {
	l := []api.Term{pair(key(1), tag(key(2), pair(word(3), key(4)))), tag(word(1), pair(key(5), word(6)))}
	for i := range l {
		for at := range nodes(&l[i]) {
			spoilt := copies(l)
			nodes(&spoilt[i])[at].N -= 7
			if p := know.Parts(spoilt); know.May(spoilt) || len(p) != 0 {
				t.Errorf("%q may be, or has %d parts", listed(spoilt), len(p))
			}
			refused(t, spoilt, word(1))
			refused(t, spoilt, key(9))
			refused(t, spoilt, spoilt[i])
			refused(t, l, spoilt[i])
		}
	}
}

// TestFollows: P6.3, that of more no less is made, that what is made adds nothing, that no key is made that is no part, and that a term is made just if it lacks nothing, and with what it lacks.
func TestFollows(t *testing.T) {
	chance := rand.New(rand.NewSource(4))
	for round := range 600 {
		l := drawnList(chance, round%7)
		more := append(slices.Clone(l), drawnList(chance, 1+chance.Intn(3))...)
		shuffled := slices.Clone(more)
		chance.Shuffle(len(more), func(i, j int) { shuffled[i], shuffled[j] = shuffled[j], shuffled[i] })
		var ts []api.Term
		for range 25 {
			if x := drawnOf(chance, more, chance.Intn(5)); know.May([]api.Term{x}) {
				ts = append(ts, x)
			}
		}
		parts := know.Parts(l)
		for i, x := range ts {
			made, lacks := know.Makes(l, x), know.Lacks(l, x)
			if made && (!know.Makes(more, x) || !know.Makes(shuffled, x)) {
				t.Errorf("of %q less is made than of %q: %s", listed(more), listed(l), spelt(x))
			}
			if made != (len(lacks) == 0) {
				t.Errorf("%s is made: %v, and lacks %q", spelt(x), made, listed(lacks))
			}
			with := append(slices.Clone(l), lacks...)
			if !know.Makes(with, x) || len(know.Lacks(with, x)) != 0 {
				t.Errorf("with %q %s is not made", listed(with), spelt(x))
			}
			if x.Kind == 1 && made != slices.Contains(listed(parts), spelt(x)) {
				t.Errorf("%q make the key %s: %v", listed(l), spelt(x), made)
			}
			if x.Kind == 3 && x.Args[0].Kind == 1 && !know.Makes(l, x.Args[0]) && made != slices.Contains(listed(parts), spelt(x)) {
				t.Errorf("%q make the tag %s: %v", listed(l), spelt(x), made)
			}
			if y := ts[(i+1)%len(ts)]; made && know.Makes(append(slices.Clone(l), x), y) != know.Makes(l, y) {
				t.Errorf("%s adds %s to %q", spelt(x), spelt(y), listed(l))
			}
		}
	}
}

// roomy are the same terms, in memory in which there is more behind them, and behind the Args of each node.
func roomy(l []api.Term) []api.Term {
	room := make([]api.Term, len(l)+3)
	for i, x := range l {
		x.Args = roomy(x.Args)
		room[i] = x
	}
	return room[:len(l)]
}

// behind are the texts of what there is in the memory of a list, and of the Args of each node.
func behind(l []api.Term) []string {
	texts := listed(l[:cap(l)])
	for _, x := range l {
		texts = append(texts, behind(x.Args)...)
	}
	return texts
}

// TestShared: R3 and R5, what is handed in stays, what is answered is the caller's own, and nothing hangs on what was asked before.
func TestShared(t *testing.T) {
	chance := rand.New(rand.NewSource(5))
	for range 200 {
		l := roomy(drawnList(chance, 1+chance.Intn(5)))
		xs := roomy([]api.Term{drawnOf(chance, l, chance.Intn(4))})
		x := xs[0]
		if !know.May(xs) {
			continue
		}
		was, xWas := behind(l), behind(xs)
		parts, lacks, made := know.Parts(l), know.Lacks(l, x), know.Makes(l, x)
		partsWere, lacksWere := listed(parts), listed(lacks)
		know.Same(l, parts)
		for i := range parts {
			spoil(&parts[i])
			if i+1 < len(parts) && !slices.Equal(listed(parts[i+1:]), partsWere[i+1:]) {
				t.Errorf("the parts of %q share", was)
			}
		}
		for i := range lacks {
			spoil(&lacks[i])
		}
		_, _ = append(parts, word(-9)), append(lacks, word(-9))
		if !slices.Equal(behind(l), was) || !slices.Equal(behind(xs), xWas) {
			t.Fatalf("%q, %q are changed to %q, %q", was, xWas, behind(l), behind(xs))
		}
		parts, lacks = know.Parts(l), know.Lacks(l, x)
		if !slices.Equal(listed(parts), partsWere) || !slices.Equal(listed(lacks), lacksWere) || know.Makes(l, x) != made {
			t.Errorf("%q, %q: another answer", was, xWas)
		}
		for i := range l {
			spoil(&l[i])
		}
		spoil(&x)
		if !slices.Equal(listed(parts), partsWere) || !slices.Equal(listed(lacks), lacksWere) {
			t.Errorf("%q, %q: the answer is changed", was, xWas)
		}
	}
}

// spoil changes all nodes of a term, and what lies behind their Args in memory.
func spoil(x *api.Term) {
	for _, y := range nodes(x) {
		y.Kind, y.N = -9, -9
		_ = append(y.Args, word(-9))
	}
}
