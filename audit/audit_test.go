package audit_test

import (
	"bytes"
	"fmt"
	"math"
	"math/rand"
	"slices"
	"testing"

	"pelican/api"
	"pelican/audit"
	"pelican/chain"
	"pelican/entry"
	"pelican/store"
)

// logOf is the log of entries, with so much room, by the chapter's words: its records are looked at by package chain's own tests.
func logOf(t *testing.T, room int, l []api.Entry) api.Log {
	t.Helper()
	b, head, is := chain.Put(l)
	if !is || len(b) > room {
		t.Fatalf("%d entries are none of a log with room for %d bytes", len(l), room)
	}
	return api.Log{St: api.Store{Cap: room, Data: b, Sure: len(b)}, L: slices.Clone(l), Head: head}
}

// storeIs and logIs tell, without the package, whether all parts are the same.
func storeIs(a, b api.Store) bool {
	return a.Cap == b.Cap && a.Sure == b.Sure && bytes.Equal(a.Data, b.Data)
}

func logIs(a, b api.Log) bool {
	return storeIs(a.St, b.St) && slices.Equal(a.L, b.L) && a.Head == b.Head
}

// told is a log's text for a fault's remark, of which the bytes may be many.
func told(g api.Log) string {
	return fmt.Sprintf("{{%d, %d bytes, %d}, %d entries, %x}", g.St.Cap, len(g.St.Data), g.St.Sure, len(g.L), g.Head[:4])
}

// mayStore and may tell by the documents' words what may be.
func mayStore(s api.Store) bool {
	return 0 <= s.Cap && s.Cap <= 16384 && len(s.Data) <= s.Cap && 0 <= s.Sure && s.Sure <= len(s.Data)
}

func may(g api.Log) bool {
	b, head, is := chain.Put(g.L)
	return mayStore(g.St) && g.St.Sure == len(g.St.Data) && is && bytes.Equal(b, g.St.Data) && head == g.Head
}

// room is how many entries that are not urgent there is room for, by the chapter's words.
func room(g api.Log) int {
	if n := g.St.Cap/62 - 4 - len(g.L); may(g) && n > 0 {
		return n
	}
	return 0
}

// full tells whether a log that may be has no room for one entry more, not even an urgent one.
func full(g api.Log) bool { return len(g.L)+1 > g.St.Cap/62 }

// added is what is to be answered when an entry is added, torn when it crashes meanwhile, by the chapter's words.
func added(t *testing.T, g api.Log, e api.Entry, urgent bool) (api.Log, api.Errno) {
	t.Helper()
	switch {
	case !may(g) || !entry.May(e):
		return g, 1
	case full(g) || !urgent && room(g) == 0:
		return g, 12
	}
	return logOf(t, g.St.Cap, append(slices.Clone(g.L), e)), 0
}

func torn(t *testing.T, g api.Log, e api.Entry, keep int) api.Store {
	t.Helper()
	if !may(g) || !entry.May(e) || full(g) {
		return g.St
	}
	all, _, is := chain.Put(append(slices.Clone(g.L), e))
	wrote, why := store.Write(g.St, all[len(g.St.Data):])
	if !is || why != api.OK {
		t.Fatal(told(g), why)
	}
	return store.Crash(wrote, keep)
}

// wide are numbers at the edges of all kinds of integers.
func wide() []int {
	l := []int{math.MinInt, math.MinInt + 1, math.MaxInt - 1, math.MaxInt}
	for _, bits := range []int{8, 14, 15, 16, 31, 32} {
		for low := -1; low <= 1; low++ {
			l = append(l, 1<<bits+low, -1<<bits+low)
		}
	}
	return l
}

// no is an entry that tells that something was refused.
func no(tick int) api.Entry { return api.Entry{Kind: api.EnNo, Tick: tick, Code: api.ErrTag} }

// nos are so many of them.
func nos(count int) []api.Entry {
	l := make([]api.Entry, count)
	for i := range l {
		l[i] = no(i)
	}
	return l
}

// wrong are entries that may not be, each because of one number.
func wrong() []api.Entry {
	l := []api.Entry{{Kind: 5}, {Tick: 1<<30 + 1}, {Epoch: 1<<30 + 1}, {User: 256}, {Cmd: 256}, {Arg: 65536}, {Code: 13}}
	for _, n := range []int{-1, math.MinInt, math.MaxInt} {
		l = append(l, api.Entry{Kind: n}, api.Entry{Tick: n}, api.Entry{Epoch: n}, api.Entry{User: n}, api.Entry{Cmd: n}, api.Entry{Arg: n}, api.Entry{Code: api.Errno(n)})
	}
	return l
}

// drawn is an entry that may be, by chance.
func drawn(chance *rand.Rand) api.Entry {
	return api.Entry{
		Kind: chance.Intn(5), Tick: chance.Intn(1<<30 + 1), Epoch: chance.Intn(1<<30 + 1), User: chance.Intn(256),
		Sess: chance.Uint64(), Count: chance.Uint64(),
		Cmd: chance.Intn(256), Arg: chance.Intn(65536), Code: api.Errno(chance.Intn(13)),
	}
}

// add holds one call of Add against the chapter's words, and answers what it answered.
func add(t *testing.T, g api.Log, e api.Entry, urgent bool) (api.Log, api.Errno) {
	t.Helper()
	got, why := audit.Add(g, e, urgent)
	if want, as := added(t, g, e, urgent); why != as || !logIs(got, want) {
		t.Errorf("%v and %+v, urgent %v: %v, %d, not %v, %d", told(g), e, urgent, told(got), why, told(want), as)
	}
	return got, why
}

// tore holds one call of Torn against the chapter's words; a log that is opened behind the crash is as it was, or has the entry (P12.4).
func tore(t *testing.T, g api.Log, e api.Entry, keep int) {
	t.Helper()
	s := audit.Torn(g, e, keep)
	if want := torn(t, g, e, keep); !storeIs(s, want) {
		t.Errorf("%v and %+v, %d kept: {%d, %d bytes, %d}, not {%d, %d bytes, %d}", told(g), e, keep, s.Cap, len(s.Data), s.Sure, want.Cap, len(want.Data), want.Sure)
	}
	if !may(g) {
		return
	}
	want, _ := added(t, g, e, true)
	if keep < 62 {
		want = g
	}
	if o, why := audit.Open(s); why != api.OK || !logIs(o, want) {
		t.Errorf("%v and %+v, %d kept: opened as %v, %d", told(g), e, keep, told(o), why)
	}
}

// held holds all that is told of a log against the chapter's words.
func held(t *testing.T, g api.Log) {
	t.Helper()
	if got := audit.May(g); got != may(g) {
		t.Errorf("%v may be: %v", told(g), got)
	}
	if !audit.Same(g, g) {
		t.Errorf("%v is not the same as it", told(g))
	}
	if n := audit.Room(g); n != room(g) {
		t.Errorf("%v has room for %d, not %d", told(g), n, room(g))
	}
	for _, urgent := range []bool{false, true} {
		add(t, g, no(7), urgent)
		add(t, g, api.Entry{Kind: 9}, urgent)
	}
	for _, keep := range []int{-1, 0, 1, 61, 62, 63} {
		tore(t, g, no(7), keep)
		tore(t, g, api.Entry{Kind: 9}, keep)
	}
	opened(t, g.St)
}

// opened holds one call of Open against the chapter's words, and answers the log.
func opened(t *testing.T, s api.Store) api.Log {
	t.Helper()
	g, why := audit.Open(s)
	var want api.Log
	as := api.ErrArg
	if mayStore(s) {
		l, head, n := chain.Read(s.Data)
		want, as = api.Log{St: api.Store{Cap: s.Cap, Data: s.Data[:n], Sure: n}, L: l, Head: head}, api.OK
	}
	if why != as || !logIs(g, want) {
		t.Errorf("{%d, %d bytes, %d} is opened as %v, %d, not %v, %d", s.Cap, len(s.Data), s.Sure, told(g), why, told(want), as)
	}
	if why == api.OK && !audit.May(g) {
		t.Errorf("%v is opened, but may not be", told(g))
	}
	return g
}

// TestLimits: the document's numbers.
func TestLimits(t *testing.T) {
	if api.MaxStore != 16384 || api.RecLen != 62 || api.Reserve != 4 || api.MaxRecs != 264 {
		t.Error("limits of logs")
	}
	if api.OK != 0 || api.ErrArg != 1 || api.ErrFull != 12 {
		t.Error("errors")
	}
}

// TestExample: the chapter's example (P12.3), and the fifth one of the whole (P12.4).
func TestExample(t *testing.T) {
	g, is := audit.New(400)
	if !is || audit.Room(g) != 2 {
		t.Fatal(told(g), is)
	}
	for i := range 8 {
		x, why := audit.Add(g, no(i), false)
		if plain := i < 2; plain != (why == api.OK) || !plain && why != api.ErrFull {
			t.Errorf("%d, not urgent: %d", i, why)
		}
		for keep, has := range map[int]bool{61: false, 62: i < 6} {
			o, _ := audit.Open(audit.Torn(g, no(i), keep))
			if has != (len(o.L) > len(g.L)) {
				t.Errorf("%d, %d bytes are kept: %d entries", i, keep, len(o.L))
			}
		}
		y, why := audit.Add(g, no(i), true)
		if i < 6 && why != api.OK || i >= 6 && why != api.ErrFull || i < 2 && !logIs(x, y) {
			t.Errorf("%d, urgent: %d", i, why)
		}
		g = y
	}
	if len(g.L) != 6 || len(g.St.Data) != 372 || g.St.Sure != 372 {
		t.Error(told(g))
	}
}

// TestNew: P12.1, with all rooms that there may be, and others.
func TestNew(t *testing.T) {
	for n := -300; n <= 16684; n++ {
		isNew(t, n)
	}
	for _, n := range wide() {
		isNew(t, n)
	}
}

func isNew(t *testing.T, n int) {
	t.Helper()
	g, is := audit.New(n)
	want := api.Log{}
	good := n >= 0 && n <= 16384
	if good {
		want = api.Log{St: api.Store{Cap: n}, Head: chain.Start()}
	}
	if is != good || !logIs(g, want) || audit.May(g) != good {
		t.Errorf("with room for %d: %v, %v", n, told(g), is)
	}
}

// TestMay: P12.1, P12.2 and P12.3, logs of all sizes, with room for just as much, and for more.
func TestMay(t *testing.T) {
	for _, count := range []int{0, 1, 2, 3, 5, 100, 263, 264} {
		for _, more := range []int{0, 1, 16, 61, 62, 63, 5 * 62, 9000} {
			if size := 62*count + more; size <= 16384 {
				held(t, logOf(t, size, nos(count)))
			}
		}
	}
}

// changed are logs that differ from one in one part each: none of them may be, but the ones of other room.
func changed(g api.Log) []api.Log {
	var all []api.Log
	change := func(do func(x *api.Log)) {
		x := g
		x.St.Data, x.L = bytes.Clone(g.St.Data), slices.Clone(g.L)
		do(&x)
		all = append(all, x)
	}
	size, count := len(g.St.Data), len(g.L)
	for _, n := range append(wide(), size, size-1, size+1, size+62, 0, -1) {
		if n != g.St.Cap {
			change(func(x *api.Log) { x.St.Cap = n })
		}
		if n != size {
			change(func(x *api.Log) { x.St.Sure = n })
		}
	}
	for i := range g.St.Data {
		change(func(x *api.Log) { x.St.Data[i] ^= 1 << (i % 8) })
	}
	for i := range g.Head {
		change(func(x *api.Log) { x.Head[i] ^= 1 << (i % 8) })
	}
	for i := range g.L {
		change(func(x *api.Log) { x.L[i].Count++ })
		change(func(x *api.Log) { x.L = slices.Delete(x.L, i, i+1) })
		change(func(x *api.Log) { x.L = slices.Insert(x.L, i, no(99)) })
		change(func(x *api.Log) { x.L[i].Arg = 65536 })
		change(func(x *api.Log) { x.L[i].Code = -1 })
		change(func(x *api.Log) { x.St.Data, x.St.Sure = x.St.Data[:62*i], 62*i })
		change(func(x *api.Log) { x.St.Data, x.St.Sure = x.St.Data[62*(i+1):], size-62*(i+1) })
	}
	for _, i := range []int{1, 61, 62, 63, size - 62, size - 1} {
		if i > 0 && i < size {
			change(func(x *api.Log) { x.St.Data, x.St.Sure = x.St.Data[:i], i })
		}
	}
	change(func(x *api.Log) { x.Head = api.Id{} })
	change(func(x *api.Log) { x.L = append(x.L, no(99)) })
	change(func(x *api.Log) { x.L = append(x.L, api.Entry{Kind: 9}) })
	change(func(x *api.Log) { x.St.Data, x.St.Sure = append(x.St.Data, 0), size+1 })
	change(func(x *api.Log) { x.St.Data, x.St.Sure = append(x.St.Data, make([]byte, 62)...), size+62 })
	change(func(x *api.Log) { x.St.Data = append(x.St.Data, 1, 2, 3) })
	if count > 0 {
		change(func(x *api.Log) { x.Head = chain.Start() })
		change(func(x *api.Log) { x.L = nil })
		change(func(x *api.Log) { x.St.Data, x.St.Sure = nil, 0 })
		change(func(x *api.Log) { x.L, x.St.Data, x.St.Sure = nil, nil, 0 })
		change(func(x *api.Log) { x.L, x.Head = nil, chain.Start() })
	}
	if count > 1 {
		change(func(x *api.Log) { slices.Reverse(x.L) })
	}
	return all
}

// TestChanged: P12.1 to P12.3, logs of which one part is changed: they are not the same, and few may be.
func TestChanged(t *testing.T) {
	for _, count := range []int{0, 1, 3} {
		for _, more := range []int{0, 62, 700} {
			g := logOf(t, 62*count+more, nos(count))
			for _, x := range changed(g) {
				held(t, x)
				if audit.Same(x, g) || audit.Same(g, x) {
					t.Errorf("%v and %v are the same", told(x), told(g))
				}
				if may(x) && x.St.Cap == g.St.Cap {
					t.Errorf("%v may be", told(x))
				}
			}
		}
	}
}

// TestSame: P12.1, and R6: lists without elements may be nil or empty; logs that may not be are held against each other, too.
func TestSame(t *testing.T) {
	g := logOf(t, 700, nos(3))
	other := logOf(t, 700, nos(3))
	if !audit.Same(g, other) || !audit.Same(api.Log{}, api.Log{}) || audit.Same(g, api.Log{}) {
		t.Error("the same")
	}
	for i, x := range changed(g) {
		for k, y := range changed(g) {
			if got := audit.Same(x, y); got != logIs(x, y) {
				t.Error(i, k, got)
			}
		}
	}
	for _, data := range [][]byte{nil, {}, make([]byte, 0, 9)} {
		for _, l := range [][]api.Entry{nil, {}, make([]api.Entry, 0, 9)} {
			x := api.Log{St: api.Store{Cap: 400, Data: data}, L: l, Head: chain.Start()}
			if n, _ := audit.New(400); !audit.Same(x, n) || !audit.Same(n, x) {
				t.Error("no elements")
			}
			held(t, x)
		}
	}
}

// TestGreatList: P12.1 and R1, more entries than any log has.
func TestGreatList(t *testing.T) {
	for _, count := range []int{264, 265, 1 << 16} {
		for _, g := range []api.Log{{}, {Head: chain.Start()}, logOf(t, 16384, nos(264))} {
			g.L = nos(count)
			held(t, g)
			g.St.Cap = 1 << 30
			held(t, g)
		}
	}
	// Their records fill a store that is greater than any.
	b, _, _ := chain.Put(nos(264))
	b = append(b, b...)
	for _, room := range []int{16384, 16385, len(b), 1 << 30} {
		held(t, api.Log{St: api.Store{Cap: room, Data: b, Sure: len(b)}, L: nos(528), Head: chain.Start()})
		held(t, api.Log{St: api.Store{Cap: room, Data: b, Sure: len(b)}, L: nos(264), Head: chain.Start()})
	}
}

// TestOpen: P12.2, stores of a log's bytes, of which as many as may be are sure, cut off anywhere, with bytes behind.
func TestOpen(t *testing.T) {
	g := logOf(t, 700, nos(4))
	size := len(g.St.Data)
	for n := range size + 1 {
		for _, sure := range []int{0, n / 2, n} {
			x := opened(t, api.Store{Cap: 700, Data: g.St.Data[:n], Sure: sure})
			if len(x.L) != n/62 || x.St.Sure != n/62*62 || x.St.Cap != 700 {
				t.Errorf("of %d bytes: %v", n, told(x))
			}
		}
	}
	for _, behind := range []string{"a", "behind", string(make([]byte, 62)), string(g.St.Data[:62]), string(g.St.Data[size-62:]), string(g.St.Data)} {
		b := append(bytes.Clone(g.St.Data), behind...)
		for _, sure := range []int{0, size - 1, size, size + 1, len(b)} {
			if x := opened(t, api.Store{Cap: 700, Data: b, Sure: sure}); !logIs(x, g) {
				t.Errorf("with %d bytes behind: %v", len(behind), told(x))
			}
		}
	}
	for i := range size {
		b := bytes.Clone(g.St.Data)
		b[i] ^= 1 << (i % 8)
		x := opened(t, api.Store{Cap: 700, Data: b, Sure: i})
		if want := logOf(t, 700, nos(i/62)); !logIs(x, want) {
			t.Errorf("byte %d is changed: %v", i, told(x))
		}
	}
}

// TestOpenWrong: P12.2 and R4, stores that may not be.
func TestOpenWrong(t *testing.T) {
	b, _, _ := chain.Put(nos(3))
	all := []api.Store{{Cap: 185, Data: b}, {Cap: 185, Data: b, Sure: 186}, {Cap: 0, Data: b[:1]}, {Cap: 62, Data: b[:63], Sure: 62}}
	for _, n := range append(wide(), -1, 16385) {
		if n < 0 || n > 16384 {
			all = append(all, api.Store{Cap: n}, api.Store{Cap: n, Data: b, Sure: len(b)})
		}
		if n < 0 || n > 186 {
			all = append(all, api.Store{Cap: 700, Data: b, Sure: n})
		}
	}
	great := bytes.Repeat(b, 100)
	all = append(all, api.Store{Cap: 16384, Data: great}, api.Store{Cap: len(great), Data: great, Sure: len(great)})
	for _, s := range all {
		opened(t, s)
		if g, why := audit.Open(s); why != 1 || !logIs(g, api.Log{}) {
			t.Errorf("{%d, %d bytes, %d}: %v, %d", s.Cap, len(s.Data), s.Sure, told(g), why)
		}
	}
}

// TestOpenBytes: P12.2, bytes by chance, and the greatest store, full of records, and of others.
func TestOpenBytes(t *testing.T) {
	chance := rand.New(rand.NewSource(1))
	for range 2000 {
		b := make([]byte, chance.Intn(300))
		chance.Read(b)
		opened(t, api.Store{Cap: len(b) + chance.Intn(100), Data: b, Sure: chance.Intn(len(b) + 1)})
	}
	b, _, _ := chain.Put(nos(264))
	for _, behind := range []int{0, 1, 15, 16} {
		if g := opened(t, api.Store{Cap: 16384, Data: append(bytes.Clone(b), make([]byte, behind)...)}); len(g.L) != 264 {
			t.Error(told(g))
		}
	}
	opened(t, api.Store{Cap: 16384, Data: make([]byte, 16384), Sure: 16384})
}

// TestRoom: P12.3, all rooms, of logs without entries, and of such that fill them to the last few.
func TestRoom(t *testing.T) {
	logs := make([]api.Log, 265)
	for i := range logs {
		logs[i] = logOf(t, 16384, nos(i))
	}
	for n := range 16385 {
		most := n / 62
		for _, count := range []int{0, 1, most - 5, most - 4, most - 3, most - 1, most} {
			if edge := n%62 < 2 || n%62 == 61; count < 0 || count > most || count > 0 && !edge {
				continue
			}
			g := logs[count]
			g.St.Cap = n
			if got := audit.Room(g); got != max(0, most-4-count) {
				t.Errorf("%v has room for %d", told(g), got)
			}
		}
	}
}

// TestAdd: P12.3, entries that are urgent or not, till there is no room for either.
func TestAdd(t *testing.T) {
	for _, size := range []int{0, 1, 61, 62, 63, 123, 124, 247, 248, 249, 309, 310, 311, 371, 372, 500} {
		for _, first := range []int{0, 1, 2, 5, 10} {
			g := logOf(t, size, nil)
			for i := range 10 {
				held(t, g)
				urgent := i >= first
				next, why := add(t, g, no(i), urgent)
				most := size / 62
				if !urgent {
					most = size/62 - 4
				}
				if fits := len(g.L) < most; fits && why != 0 || !fits && why != 12 {
					t.Errorf("room for %d bytes, %d entries, urgent %v: %d", size, len(g.L), urgent, why)
				}
				g = next
			}
		}
	}
}

// TestAddGreat: P12.3, the greatest log: 260 entries that are not urgent, and 4 that are.
func TestAddGreat(t *testing.T) {
	chance := rand.New(rand.NewSource(2))
	g := logOf(t, 16384, nil)
	var l []api.Entry
	for i := range 266 {
		e := drawn(chance)
		x, why := audit.Add(g, e, false)
		if plain := i < 260; plain != (why == api.OK) || !plain && (why != 12 || !logIs(x, g)) {
			t.Fatalf("%d, not urgent: %v, %d", i, told(x), why)
		}
		y, why := audit.Add(g, e, true)
		if i >= 264 {
			if why != 12 || !logIs(y, g) {
				t.Fatalf("%d, urgent: %v, %d", i, told(y), why)
			}
			continue
		}
		l = append(l, e)
		if why != api.OK || i < 260 && !logIs(x, y) || !logIs(y, logOf(t, 16384, l)) {
			t.Fatalf("%d, urgent: %v, %d", i, told(y), why)
		}
		g = y
	}
	held(t, g)
}

// TestOrder: P12.3 and R2, what may not be is told ahead of that there is no room.
func TestOrder(t *testing.T) {
	for _, count := range []int{0, 1, 6} {
		g := logOf(t, 62*count+5, nos(count))
		for _, urgent := range []bool{false, true} {
			if x, why := add(t, g, no(7), urgent); why != 12 || !logIs(x, g) {
				t.Error(count, why)
			}
			for _, e := range wrong() {
				if x, why := add(t, g, e, urgent); why != 1 || !logIs(x, g) {
					t.Errorf("%d, %+v: %d", count, e, why)
				}
			}
			for _, x := range changed(g) {
				if y, why := add(t, x, no(7), urgent); !may(x) && (why != 1 || !logIs(x, y)) {
					t.Errorf("%v: %d", told(x), why)
				}
			}
		}
	}
}

// TestWrong: P12.3, entries that may not be, where there is room.
func TestWrong(t *testing.T) {
	g := logOf(t, 16384, nos(3))
	for _, e := range wrong() {
		for _, urgent := range []bool{false, true} {
			if x, why := add(t, g, e, urgent); why != 1 || !logIs(x, g) {
				t.Errorf("%+v: %d", e, why)
			}
		}
		for _, keep := range []int{-1, 0, 30, 62, 70} {
			tore(t, g, e, keep)
			if s := audit.Torn(g, e, keep); !storeIs(s, g.St) {
				t.Errorf("%+v, %d kept: %d bytes", e, keep, len(s.Data))
			}
		}
	}
}

// TestTorn: P12.3 and P12.4, however many bytes are kept, with room for many, for four, for one, and for none.
func TestTorn(t *testing.T) {
	keeps := wide()
	for keep := -2; keep < 140; keep++ {
		keeps = append(keeps, keep)
	}
	for _, count := range []int{0, 1, 2, 5} {
		for _, more := range []int{0, 61, 62, 63, 248, 310, 900} {
			g := logOf(t, 62*count+more, nos(count))
			for _, keep := range keeps {
				tore(t, g, no(9), keep)
				s := audit.Torn(g, no(9), keep)
				size := min(max(keep, 0), 62)
				if more < 62 {
					size = 0
				}
				if len(s.Data) != 62*count+size || s.Sure != len(s.Data) || !bytes.HasPrefix(s.Data, g.St.Data) {
					t.Errorf("%v, %d kept: %d bytes, %d sure", told(g), keep, len(s.Data), s.Sure)
				}
			}
		}
	}
	g := logOf(t, 16384, nos(263))
	for _, keep := range []int{-1, 0, 61, 62, 63} {
		tore(t, g, no(9), keep)
	}
}

// TestTornWrong: P12.3, the store of a log that may not be stays as it was, also what is not sure of it.
func TestTornWrong(t *testing.T) {
	g := logOf(t, 700, nos(3))
	for _, x := range changed(g) {
		for _, keep := range []int{-1, 0, 1, 62, 100} {
			tore(t, x, no(9), keep)
		}
	}
}

// TestLives: P12.4, adding, crashing meanwhile, and opening, by chance: the log has just what was added, and may have what was added as it crashed.
func TestLives(t *testing.T) {
	chance := rand.New(rand.NewSource(3))
	for range 60 {
		g := logOf(t, chance.Intn(1500), nil)
		var l []api.Entry
		for range 40 {
			e, urgent := drawn(chance), chance.Intn(2) == 0
			if keep := chance.Intn(70) - 3; chance.Intn(3) == 0 {
				tore(t, g, e, keep)
				if keep >= 62 && len(l) < g.St.Cap/62 {
					l = append(l, e)
				}
				g = opened(t, audit.Torn(g, e, keep))
			} else {
				var why api.Errno
				if g, why = add(t, g, e, urgent); why == api.OK {
					l = append(l, e)
				}
			}
			if !audit.May(g) || !slices.Equal(g.L, l) || !logIs(g, logOf(t, g.St.Cap, l)) {
				t.Fatalf("%v, of %d entries", told(g), len(l))
			}
			if o := opened(t, g.St); !logIs(o, g) {
				t.Fatalf("%v is opened as %v", told(g), told(o))
			}
		}
	}
}

// spare is a log with marks in memory behind what it has.
func spare(g api.Log) api.Log {
	b, l := g.St.Data, g.L
	g.St.Data = append(bytes.Clone(b), bytes.Repeat([]byte{0xAA}, 200)...)[:len(b)]
	g.L = append(slices.Clone(l), slices.Repeat([]api.Entry{no(1000)}, 9)...)[:len(l)]
	return g
}

// marked tells whether a log that spare answered still is that one, also in the memory behind.
func marked(x, g api.Log) bool {
	y := spare(g)
	return logIs(x, g) && bytes.Equal(x.St.Data[:len(x.St.Data)+200], y.St.Data[:len(y.St.Data)+200]) && slices.Equal(x.L[:len(x.L)+9], y.L[:len(y.L)+9])
}

// spoil writes over all of a log's memory, also that behind.
func spoil(g api.Log) {
	b, l := g.St.Data[:cap(g.St.Data)], g.L[:cap(g.L)]
	for i := range b {
		b[i] ^= 0xFF
	}
	for i := range l {
		l[i].Tick++
	}
}

// answers are all logs that the calls answer of one, and an entry; a store stands in a log without entries.
func answers(g api.Log, e api.Entry) []api.Log {
	var all []api.Log
	for _, urgent := range []bool{false, true} {
		x, _ := audit.Add(g, e, urgent)
		all = append(all, x)
	}
	for _, keep := range []int{0, 7, 62} {
		all = append(all, api.Log{St: audit.Torn(g, e, keep)})
	}
	o, _ := audit.Open(g.St)
	return append(all, o)
}

// TestOwn: R3, what is handed in stays as it was, and answers share nothing with it, nor with one another, also with an error.
func TestOwn(t *testing.T) {
	for _, base := range []api.Log{logOf(t, 700, nos(3)), logOf(t, 400, nos(4)), logOf(t, 186, nos(3)), logOf(t, 62, nil), {St: api.Store{Cap: 300, Data: []byte("abc"), Sure: 1}, L: nos(2)}, {St: api.Store{Cap: -1, Data: []byte("abc")}, L: nos(2)}} {
		for _, e := range []api.Entry{no(9), {Kind: 9}} {
			want := answers(base, e)
			for i := range want {
				g := spare(base)
				got := answers(g, e)
				if !marked(g, base) {
					t.Errorf("%v is changed", told(base))
				}
				spoil(got[i])
				if !marked(g, base) {
					t.Errorf("%v shares with answer %d", told(base), i)
				}
				spoil(g)
				for k := range want {
					if k != i && !logIs(got[k], want[k]) {
						t.Errorf("%v: answer %d shares with answer %d, or with what was handed in", told(base), k, i)
					}
				}
			}
		}
	}
	x, _ := audit.New(400)
	spoil(x)
	if y, _ := audit.New(400); !logIs(y, logOf(t, 400, nil)) {
		t.Error(told(y))
	}
}

// TestGrown: R3, two logs that grow from one are each its own.
func TestGrown(t *testing.T) {
	g := logOf(t, 1500, nil)
	for i := range 15 {
		a, _ := audit.Add(g, no(1), true)
		b, _ := audit.Add(g, no(2), true)
		if a.L[i] != no(1) || b.L[i] != no(2) || !audit.May(a) || !audit.May(b) {
			t.Errorf("%d: %v, %v", i, told(a), told(b))
		}
		g = a
	}
}
