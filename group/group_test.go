package group_test

import (
	"math"
	"math/rand"
	"slices"
	"sync"
	"testing"

	"pelican/api"
	"pelican/group"
)

// in tells by the chapter's words whether a group is in a set: the set by 2^i, rounded down, is odd.
func in(set, i int) bool {
	by := 1
	for range i {
		by *= 2
	}
	return set/by%2 == 1
}

// isSet tells whether a number is a set of so many groups: sets are summed up, so that none of the package's ways is taken.
func isSet(set, count int) bool {
	sets := 1
	for range count {
		sets += sets
	}
	return 0 <= set && set <= sets-1
}

// setOf is the set of those groups for which something is so.
func setOf(count int, is func(i int) bool) int {
	set, by := 0, 1
	for i := range count {
		if is(i) {
			set += by
		}
		by *= 2
	}
	return set
}

// may, free, against, sets, list and of are what is to be answered, by the chapter's words.
func may(m []int) bool {
	if len(m) < 1 || len(m) > 8 {
		return false
	}
	for _, row := range m {
		if !isSet(row, len(m)) {
			return false
		}
	}
	for i := range m {
		for j := range m {
			if in(m[i], j) && (i == j || !in(m[j], i)) {
				return false
			}
		}
	}
	return true
}

func free(m []int, set int) bool {
	if !may(m) || !isSet(set, len(m)) {
		return false
	}
	for i := range m {
		for j := range m {
			if in(set, i) && in(set, j) && in(m[i], j) {
				return false
			}
		}
	}
	return true
}

func against(m []int, set int) int {
	if !may(m) || !isSet(set, len(m)) {
		return -1
	}
	return setOf(len(m), func(j int) bool {
		for i := range m {
			if in(set, i) && in(m[i], j) {
				return true
			}
		}
		return false
	})
}

func sets(m []int) []int {
	var l []int
	for set := 0; may(m) && isSet(set, len(m)); set++ {
		if free(m, set) && !grows(m, set) {
			l = append(l, set)
		}
	}
	return l
}

// grows tells whether a set is free with some group more.
func grows(m []int, set int) bool {
	for more := range m {
		bigger := setOf(len(m), func(i int) bool { return i == more || in(set, i) })
		if bigger != set && free(m, bigger) {
			return true
		}
	}
	return false
}

func list(set int) []int {
	var l []int
	for i := range 8 {
		if isSet(set, 8) && in(set, i) {
			l = append(l, i)
		}
	}
	return l
}

func of(l []int) int {
	for k, i := range l {
		if i < 0 || i > 7 || slices.Contains(l[:k], i) {
			return -1
		}
	}
	return setOf(8, func(i int) bool { return slices.Contains(l, i) })
}

// wide are numbers at the edges of all kinds of integers, and such as a shorter one would take for a small one.
func wide() []int {
	var l []int
	for _, bits := range []int{8, 9, 15, 16, 31, 32, 62} {
		for low := -1; low <= 8; low++ {
			l = append(l, 1<<bits+low, -1<<bits+low)
		}
	}
	for near := range 9 {
		l = append(l, math.MinInt+near, math.MaxInt-near)
	}
	return l
}

// each calls do with all rows of so many numbers, each from low to high.
func each(count, low, high int, do func(l []int)) {
	l := make([]int, count)
	var put func(k int)
	put = func(k int) {
		if k == count {
			do(l)
			return
		}
		for l[k] = low; l[k] <= high; l[k]++ {
			put(k + 1)
		}
	}
	put(0)
}

// conflicts are how many pairs so many groups have, matrix the matrix of those pairs of which the number tells by its bits that they conflict.
func conflicts(count int) int { return count * (count - 1) / 2 }

func matrix(count, pairs int) []int {
	m := make([]int, count)
	for i := range count {
		for j := range i {
			if pairs&1 == 1 {
				m[i] += 1 << j
				m[j] += 1 << i
			}
			pairs >>= 1
		}
	}
	return m
}

// drawn is a matrix that may be, by chance, of few conflicts, of some, or of many.
func drawn(chance *rand.Rand) []int {
	m := make([]int, 1+chance.Intn(8))
	often := 1 + chance.Intn(9)
	for i := range m {
		for j := range i {
			if chance.Intn(10) < often {
				m[i] += 1 << j
				m[j] += 1 << i
			}
		}
	}
	return m
}

// held holds all that is told of a matrix, and of numbers that are its sets, or are none, against the chapter's words.
func held(t *testing.T, m []int, numbers []int) {
	t.Helper()
	if got := group.May(m); got != may(m) {
		t.Errorf("%v may be: %v", m, got)
	}
	if got := group.Sets(m); !slices.Equal(got, sets(m)) {
		t.Errorf("%v: sets %v, not %v", m, got, sets(m))
	}
	for _, set := range numbers {
		if got := group.Free(m, set); got != free(m, set) {
			t.Errorf("%v, %d is free: %v", m, set, got)
		}
		if got := group.Against(m, set); got != against(m, set) {
			t.Errorf("%v, against %d: %d, not %d", m, set, got, against(m, set))
		}
	}
}

// around are all sets of so many groups, and the numbers next to them.
func around(count int) []int {
	var l []int
	for set := -2; set <= 1<<count+1; set++ {
		l = append(l, set)
	}
	return l
}

// TestLimits: the document's number of groups.
func TestLimits(t *testing.T) {
	if api.MaxGroups != 8 {
		t.Error(api.MaxGroups)
	}
}

// TestExample: the chapter's example, of three groups, of which 0 and 1 conflict, by numbers alone.
func TestExample(t *testing.T) {
	m := []int{2, 1, 0}
	if !group.May(m) || !slices.Equal(group.Sets(m), []int{5, 6}) {
		t.Error(group.Sets(m))
	}
	for set, x := range []struct {
		free    bool
		against int
	}{{true, 0}, {true, 2}, {true, 1}, {false, 3}, {true, 0}, {true, 2}, {true, 1}, {false, 3}} {
		if group.Free(m, set) != x.free || group.Against(m, set) != x.against {
			t.Errorf("%d: %v, %d", set, group.Free(m, set), group.Against(m, set))
		}
	}
}

// TestKnown: P13.1 and P13.2, matrices whose greatest free sets one knows.
func TestKnown(t *testing.T) {
	for _, x := range []struct{ m, sets []int }{
		{[]int{0}, []int{1}},
		{[]int{0, 0}, []int{3}},
		{[]int{2, 1}, []int{1, 2}},
		{[]int{2, 5, 2}, []int{2, 5}},
		{[]int{6, 5, 3}, []int{1, 2, 4}},
		{[]int{10, 5, 10, 5}, []int{5, 10}},
		{[]int{2, 5, 10, 4}, []int{5, 9, 10}},
		{[]int{18, 5, 10, 20, 9}, []int{5, 9, 10, 18, 20}},
		{[]int{0, 0, 0, 0, 0, 0, 0, 0}, []int{255}},
		{[]int{254, 1, 1, 1, 1, 1, 1, 1}, []int{1, 254}},
		{[]int{128, 128, 128, 128, 128, 128, 128, 127}, []int{127, 128}},
		{[]int{254, 253, 251, 247, 239, 223, 191, 127}, []int{1, 2, 4, 8, 16, 32, 64, 128}},
		{[]int{240, 240, 240, 240, 15, 15, 15, 15}, []int{15, 240}},
		{[]int{2, 1, 8, 4, 32, 16, 128, 64}, []int{85, 86, 89, 90, 101, 102, 105, 106, 149, 150, 153, 154, 165, 166, 169, 170}},
	} {
		if got := group.Sets(x.m); !slices.Equal(got, x.sets) {
			t.Errorf("%v: %v", x.m, got)
		}
		held(t, x.m, around(len(x.m)))
	}
}

// TestCounts: P13.1 and P13.2, groups from none to many, of which none conflict.
func TestCounts(t *testing.T) {
	held(t, nil, around(0))
	for count := range 21 {
		m := make([]int, count)
		good := count >= 1 && count <= 8
		if group.May(m) != good || group.Free(m, 0) != good || (group.Against(m, 0) == 0) != good || len(group.Sets(m)) == 1 != good {
			t.Errorf("%d groups", count)
		}
		held(t, m, append(around(8), 1<<count-1, 1<<count))
	}
	for _, count := range []int{64, 256, 264, 65544, 1 << 20} {
		held(t, make([]int, count), []int{0, 1})
	}
}

// TestSmall: P13.1 and P13.2, all rows of up to three small numbers, of which few may be.
func TestSmall(t *testing.T) {
	for count := range 4 {
		each(count, -2, 1<<count+1, func(m []int) { held(t, m, around(count)) })
	}
}

// TestMay: P13.1, all rows of four numbers: those that may be are just the matrices of all pairs.
func TestMay(t *testing.T) {
	good := 0
	each(4, -1, 17, func(m []int) {
		is := group.May(m)
		if is != may(m) {
			t.Errorf("%v may be: %v", m, is)
		}
		if is {
			good++
		}
	})
	if good != 1<<conflicts(4) {
		t.Errorf("%d of four groups may be", good)
	}
}

// TestAll: P13.1 and P13.2, all matrices of up to five groups, with all sets.
func TestAll(t *testing.T) {
	for count := 1; count <= 5; count++ {
		for pairs := range 1 << conflicts(count) {
			m := matrix(count, pairs)
			if !group.May(m) {
				t.Errorf("%v", m)
			}
			held(t, m, around(count))
		}
	}
}

// TestDrawn: P13.1 and P13.2, matrices of up to eight groups, by chance.
func TestDrawn(t *testing.T) {
	chance := rand.New(rand.NewSource(13))
	for range 150 {
		m := drawn(chance)
		held(t, m, append(around(len(m)), 254, 255, 256))
	}
}

// TestFlipped: P13.1 and P13.2, no matrix may be any more if one bit of a row is another one: then one conflicts with itself, with one that does not with it, or with none that there is.
func TestFlipped(t *testing.T) {
	chance := rand.New(rand.NewSource(31))
	for range 60 {
		m := drawn(chance)
		for i := range m {
			for bit := range 64 {
				m[i] ^= 1 << bit
				if group.May(m) || group.Free(m, 0) || group.Against(m, 0) != -1 || len(group.Sets(m)) != 0 {
					t.Errorf("%v, of which row %d is another one", m, i)
				}
				m[i] ^= 1 << bit
			}
		}
	}
}

// TestPairs: P13.1, each pair of eight groups, alone: it conflicts, all others do not; told in one row of the two it may not be.
func TestPairs(t *testing.T) {
	for i := range 8 {
		for j := range 8 {
			m := make([]int, 8)
			m[i] += 1 << j
			held(t, m, []int{0, 1 << i, 1 << j, 255})
			if i == j {
				continue
			}
			m[j] += 1 << i
			held(t, m, around(8))
			if !slices.Equal(group.Sets(m), []int{min(255-1<<i, 255-1<<j), max(255-1<<i, 255-1<<j)}) {
				t.Errorf("%d and %d: %v", i, j, group.Sets(m))
			}
			for _, row := range []int{i, j} {
				x := slices.Clone(m)
				x[row] = 0
				held(t, x, []int{0, 255})
			}
		}
	}
}

// TestWideRows: P13.1 and P13.2, rows that are no sets, at each place, and such as are sets of more groups than there are.
func TestWideRows(t *testing.T) {
	for _, base := range [][]int{{0}, {2, 1}, {2, 1, 0}, {10, 5, 10, 5}, make([]int, 8)} {
		for i := range base {
			for _, n := range append(wide(), -1, 1<<len(base), 1<<len(base)+base[i], base[i]+256, base[i]+1<<32, base[i]+math.MinInt, -base[i]-1, ^base[i]) {
				m := slices.Clone(base)
				m[i] = n
				held(t, m, []int{-1, 0, 1, 1<<len(base) - 1})
			}
		}
	}
}

// TestWideSets: P13.1, numbers that are no sets of the groups that there are: none is free, and against them is -1.
func TestWideSets(t *testing.T) {
	for _, m := range [][]int{{0}, {2, 1}, {2, 1, 0}, {10, 5, 10, 5}, make([]int, 7), make([]int, 8)} {
		for _, set := range append(wide(), -1, -2, -256, 1<<len(m), 1<<len(m)+1, 256, 1<<40) {
			if isSet(set, len(m)) {
				continue
			}
			if group.Free(m, set) || group.Against(m, set) != -1 {
				t.Errorf("%v, %d: %v, %d", m, set, group.Free(m, set), group.Against(m, set))
			}
		}
	}
}

// TestList: P13.3, all sets, and numbers that are none.
func TestList(t *testing.T) {
	for _, x := range []struct {
		set int
		l   []int
	}{{0, nil}, {1, []int{0}}, {5, []int{0, 2}}, {128, []int{7}}, {254, []int{1, 2, 3, 4, 5, 6, 7}}, {255, []int{0, 1, 2, 3, 4, 5, 6, 7}}, {256, nil}, {-1, nil}} {
		if got := group.List(x.set); !slices.Equal(got, x.l) {
			t.Errorf("%d: %v", x.set, got)
		}
	}
	numbers := wide()
	for set := -700; set <= 1400; set++ {
		numbers = append(numbers, set)
	}
	for _, set := range numbers {
		if got := group.List(set); !slices.Equal(got, list(set)) {
			t.Errorf("%d: %v, not %v", set, got, list(set))
		}
	}
}

// TestOf: P13.3, all lists of up to four groups, in any order, and of such as are none.
func TestOf(t *testing.T) {
	for _, x := range []struct {
		l   []int
		set int
	}{{nil, 0}, {[]int{}, 0}, {[]int{0}, 1}, {[]int{7}, 128}, {[]int{2, 0}, 5}, {[]int{7, 6, 5, 4, 3, 2, 1, 0}, 255}, {[]int{8}, -1}, {[]int{-1}, -1}, {[]int{1, 1}, -1}, {[]int{0, 1, 0}, -1}} {
		if got := group.Of(x.l); got != x.set {
			t.Errorf("%v: %d", x.l, got)
		}
	}
	for count := range 5 {
		each(count, -2, 9, func(l []int) {
			if got := group.Of(l); got != of(l) {
				t.Errorf("%v: %d, not %d", l, got, of(l))
			}
		})
	}
}

// TestOfLong: P13.3, lists of more, by chance, of eight groups in any order, with one more, and with one that is none.
func TestOfLong(t *testing.T) {
	chance := rand.New(rand.NewSource(7))
	for range 2000 {
		l := chance.Perm(8)[:chance.Intn(9)]
		for _, more := range []int{-1, 8, 9, chance.Intn(8), chance.Int(), -1 - chance.Int()} {
			x := slices.Insert(slices.Clone(l), chance.Intn(len(l)+1), more)
			for _, y := range [][]int{l, x} {
				if got := group.Of(y); got != of(y) {
					t.Errorf("%v: %d, not %d", y, got, of(y))
				}
			}
		}
	}
	for _, n := range wide() {
		for _, l := range [][]int{{n}, {0, n}, {n, 0}, {7, n, 3}} {
			if got := group.Of(l); got != -1 {
				t.Errorf("%v: %d", l, got)
			}
		}
	}
	if group.Of(make([]int, 1<<20)) != -1 {
		t.Error("many groups")
	}
}

// TestFreeByAgainst: P13.4, a set is free just if none of its groups is against it, told by the package's calls alone.
func TestFreeByAgainst(t *testing.T) {
	many(func(m []int) {
		for set := range 1 << len(m) {
			foes := group.List(group.Against(m, set))
			met := slices.ContainsFunc(group.List(set), func(i int) bool { return slices.Contains(foes, i) })
			if group.Free(m, set) == met {
				t.Errorf("%v, %d, against it %v", m, set, foes)
			}
		}
	})
}

// TestPart: P13.4, each free set is part of one of Sets, and all that is part of one of them is free; they rise, and none is part of another one.
func TestPart(t *testing.T) {
	many(func(m []int) {
		all := group.Sets(m)
		for set := range 1 << len(m) {
			parts := slices.ContainsFunc(all, func(whole int) bool { return whole&set == set })
			if parts != group.Free(m, set) {
				t.Errorf("%v, %d is part of one of %v: %v", m, set, all, parts)
			}
		}
		for k, x := range all {
			for _, y := range all[k+1:] {
				if x >= y || x&y == x || x&y == y {
					t.Errorf("%v: %v", m, all)
				}
			}
		}
	})
}

// many calls do with all matrices of up to four groups, and with greater ones by chance.
func many(do func(m []int)) {
	for count := 1; count <= 4; count++ {
		for pairs := range 1 << conflicts(count) {
			do(matrix(count, pairs))
		}
	}
	chance := rand.New(rand.NewSource(4))
	for range 300 {
		do(drawn(chance))
	}
}

// TestBack: P13.4, a list comes back from its set, and a set from its list.
func TestBack(t *testing.T) {
	for set := range 256 {
		l := group.List(set)
		if group.Of(l) != set {
			t.Errorf("%d: %v, %d", set, l, group.Of(l))
		}
		if back := group.List(group.Of(l)); !slices.Equal(back, l) || !slices.IsSorted(l) {
			t.Errorf("%v: %v", l, back)
		}
	}
	each(4, 0, 7, func(l []int) {
		set := group.Of(l)
		if set < 0 {
			return
		}
		want := slices.Sorted(slices.Values(l))
		if back := group.List(set); !slices.Equal(back, want) {
			t.Errorf("%v: %v", l, back)
		}
	})
}

// TestOwn: R3 and R5, what is handed in stays as it was, also behind its end, and answers share nothing with it, nor with later ones.
func TestOwn(t *testing.T) {
	for _, base := range [][]int{{0}, {2, 1, 0}, {10, 5, 10, 5}, {2, 0}, {1, 2, 3}, {3, 3}, {7, 0, 2}, nil} {
		room := append(slices.Clone(base), 77, 78, 79)
		before := slices.Clone(room)
		m := room[:len(base)]
		first := [][]int{group.Sets(m), group.List(5)}
		numbers := []int{group.Of(m), group.Against(m, 1)}
		truths := []bool{group.May(m), group.Free(m, 1)}
		if !slices.Equal(room, before) {
			t.Errorf("%v is changed", base)
		}
		want := [][]int{slices.Clone(first[0]), slices.Clone(first[1])}
		for _, l := range first {
			l = l[:cap(l)]
			for i := range l {
				l[i] = -9
			}
		}
		if !slices.Equal(room, before) || !slices.Equal(group.Sets(m), want[0]) || !slices.Equal(group.List(5), want[1]) {
			t.Errorf("%v shares with an answer", base)
		}
		if group.Of(m) != numbers[0] || group.Against(m, 1) != numbers[1] || group.May(m) != truths[0] || group.Free(m, 1) != truths[1] {
			t.Errorf("%v is told twice in two ways", base)
		}
		kept := group.Sets(m)
		for i := range m {
			m[i] = 200
		}
		if !slices.Equal(kept, want[0]) {
			t.Errorf("an answer shares with %v", base)
		}
	}
}

// TestAtOnce: R5, many calls at once answer what one alone does.
func TestAtOnce(t *testing.T) {
	var all sync.WaitGroup
	for seed := range 8 {
		all.Go(func() {
			chance := rand.New(rand.NewSource(int64(seed)))
			for range 20 {
				m := drawn(chance)
				if got := group.Sets(m); !slices.Equal(got, sets(m)) {
					t.Errorf("%v: %v", m, got)
				}
				set := chance.Intn(256)
				if got := group.List(set); group.Of(got) != set {
					t.Errorf("%d: %v", set, got)
				}
			}
		})
	}
	all.Wait()
}
