package store_test

import (
	"bytes"
	"fmt"
	"math"
	"math/rand"
	"strings"
	"testing"

	"pelican/api"
	"pelican/store"
)

// made is a store with a text's bytes, and with noughts in memory behind them, if spare says so.
func made(room int, text string, sure, spare int) api.Store {
	b := make([]byte, len(text), len(text)+spare)
	copy(b, text)
	return api.Store{Cap: room, Data: b, Sure: sure}
}

// is tells, without the package, whether a store has just these parts.
func is(s api.Store, room int, text string, sure int) bool {
	return s.Cap == room && string(s.Data) == text && s.Sure == sure
}

// told is a store's text for a fault's remark, of which the bytes may be many.
func told(s api.Store) string {
	return fmt.Sprintf("{%d, %d bytes %.40q, %d}", s.Cap, len(s.Data), s.Data, s.Sure)
}

// may tells by the chapter's words whether a store may be.
func may(s api.Store) bool {
	good := 0 <= s.Cap && s.Cap <= 16384
	good = good && s.Cap >= len(s.Data)
	return good && 0 <= s.Sure && len(s.Data) >= s.Sure
}

// edges are numbers at the edges of all kinds of integers, and such as a shorter integer would take for a small one.
func edges() []int {
	var l []int
	for _, bits := range []int{8, 14, 15, 16, 31, 32, 62} {
		for low := -2; low <= 8; low++ {
			l = append(l, 1<<bits+low, -1<<bits+low)
		}
	}
	for near := range 9 {
		l = append(l, math.MinInt+near, math.MaxInt-near)
	}
	return l
}

// wrote, synced, cut and crashed hold one call each against the chapter's words, and answer what it answered.
func wrote(t *testing.T, s api.Store, b string) api.Store {
	t.Helper()
	got, e := store.Write(s, []byte(b))
	text, want := string(s.Data), api.OK
	switch {
	case !may(s):
		want = api.ErrArg
	case len(text)+len(b) > s.Cap:
		want = api.ErrFull
	default:
		text += b
	}
	if e != want || !is(got, s.Cap, text, s.Sure) {
		t.Errorf("%d bytes more to %v: %v, %d", len(b), told(s), told(got), e)
	}
	return got
}

func synced(t *testing.T, s api.Store) api.Store {
	t.Helper()
	got, e := store.Sync(s)
	sure, want := len(s.Data), api.OK
	if !may(s) {
		sure, want = s.Sure, api.ErrArg
	}
	if e != want || !is(got, s.Cap, string(s.Data), sure) {
		t.Errorf("%v, sure: %v, %d", told(s), told(got), e)
	}
	return got
}

func cut(t *testing.T, s api.Store, n int) api.Store {
	t.Helper()
	got, e := store.Cut(s, n)
	text, sure, want := string(s.Data), s.Sure, api.ErrArg
	if may(s) && n >= 0 && n <= len(text) {
		text, sure, want = text[:n], n, api.OK
	}
	if e != want || !is(got, s.Cap, text, sure) {
		t.Errorf("%v, cut at %d: %v, %d", told(s), n, told(got), e)
	}
	return got
}

func crashed(t *testing.T, s api.Store, keep int) api.Store {
	t.Helper()
	got := store.Crash(s, keep)
	text, sure := string(s.Data), s.Sure
	if may(s) {
		for i := sure; i < len(text) && keep > 0; i++ {
			sure, keep = sure+1, keep-1
		}
		text = text[:sure]
	}
	if !is(got, s.Cap, text, sure) {
		t.Errorf("%v, crashed, with %d kept: %v", told(s), keep, told(got))
	}
	return got
}

// held holds each call for a store against the chapter's words, with those numbers, and counts of bytes.
func held(t *testing.T, s api.Store, numbers, counts []int) {
	t.Helper()
	if t.Failed() {
		return
	}
	left := 0
	if may(s) {
		left = s.Cap - len(s.Data)
	}
	if store.May(s) != may(s) || store.Left(s) != left {
		t.Errorf("%v: %v, room for %d", told(s), store.May(s), store.Left(s))
	}
	after := []api.Store{synced(t, s)}
	for _, n := range counts {
		after = append(after, wrote(t, s, strings.Repeat("w", n)))
	}
	for _, n := range numbers {
		after = append(after, cut(t, s, n), crashed(t, s, n))
	}
	// P9.4: what may be stays so.
	for _, x := range after {
		if store.May(x) != may(s) || !may(s) && !store.Same(x, s) {
			t.Errorf("%v becomes %v", told(s), told(x))
		}
	}
}

// TestLimits: the tests' numbers are api's.
func TestLimits(t *testing.T) {
	if api.MaxStore != 16384 || api.OK != 0 || api.ErrArg != 1 || api.ErrFull != 12 {
		t.Error("limits")
	}
}

// TestExample: P9.3, that of the chapter.
func TestExample(t *testing.T) {
	if s := store.Crash(made(9, "abc", 1, 0), 1); !is(s, 9, "ab", 2) {
		t.Error(told(s))
	}
}

// TestNew: P9.1, with each room that may be, and with edges.
func TestNew(t *testing.T) {
	numbers := edges()
	for n := -300; n <= 17000; n++ {
		numbers = append(numbers, n)
	}
	for _, n := range numbers {
		s, good := store.New(n)
		if n < 0 || n > 16384 {
			if good || s.Data != nil || !is(s, 0, "", 0) {
				t.Errorf("room for %d: %v, %v", n, told(s), good)
			}
		} else if !good || !is(s, n, "", 0) || !store.May(s) || store.Left(s) != n {
			t.Errorf("room for %d: %v, %v, room for %d", n, told(s), good, store.Left(s))
		}
	}
}

// TestMay: P9.1, each of the parts at edges, with counts of bytes up to the greatest room and above it.
func TestMay(t *testing.T) {
	for _, count := range []int{0, 1, 2, 255, 256, 257, 16383, 16384, 16385, 16640, 65536, 65537, 1 << 20} {
		b := make([]byte, count)
		near := append(edges(), -1, 0, 1, count-1, count, count+1, 16383, 16384, 16385)
		for _, room := range near {
			for _, sure := range near {
				s := api.Store{Cap: room, Data: b, Sure: sure}
				left := 0
				if may(s) {
					left = room - count
				}
				if store.May(s) != may(s) || store.Left(s) != left {
					t.Fatalf("%d bytes, room for %d, sure %d: %v, %d", count, room, sure, store.May(s), store.Left(s))
				}
			}
		}
	}
}

// TestMayNil: P9.1 and R6, no bytes may be nil or empty.
func TestMayNil(t *testing.T) {
	for _, room := range []int{0, 1, 16384} {
		none, empty := api.Store{Cap: room}, api.Store{Cap: room, Data: []byte{}}
		if !store.May(none) || !store.May(empty) || !store.Same(none, empty) || !store.Same(empty, none) {
			t.Error(room)
		}
	}
}

// TestSame: P9.1, of stores that may be, and that may not: one part that is another one.
func TestSame(t *testing.T) {
	for _, s := range []api.Store{{}, made(9, "abc", 1, 0), made(3, "abc", 3, 5), made(-5, "abcdef", 77, 0), made(math.MaxInt, "", math.MinInt, 0), made(16384, strings.Repeat("s", 16384), 16000, 0)} {
		if !store.Same(s, s) || !store.Same(s, made(s.Cap, string(s.Data), s.Sure, 7)) {
			t.Errorf("%v is another one", told(s))
		}
		differ := func(x api.Store) {
			t.Helper()
			if store.Same(s, x) || store.Same(x, s) {
				t.Errorf("%v and %v are the same", told(s), told(x))
			}
		}
		for _, n := range []int{1, -1, 256, 1 << 16, 1 << 32, math.MinInt} {
			differ(made(s.Cap+n, string(s.Data), s.Sure, 0))
			differ(made(s.Cap, string(s.Data), s.Sure+n, 0))
			differ(made(s.Cap+n, string(s.Data), s.Sure-n, 0))
		}
		differ(made(s.Cap, string(s.Data)+"\x00", s.Sure, 0))
		for i := range s.Data {
			if i > 100 && i < len(s.Data)-100 {
				continue
			}
			differ(made(s.Cap, string(s.Data[:i]), s.Sure, 0))
			for bit := range 8 {
				x := made(s.Cap, string(s.Data), s.Sure, 0)
				x.Data[i] ^= 1 << bit
				differ(x)
			}
		}
	}
}

// TestSmall: P9.1 to P9.4, all small stores, such as may be and such as may not, with all small numbers and counts, and with edges.
func TestSmall(t *testing.T) {
	numbers := edges()
	for n := -3; n <= 10; n++ {
		numbers = append(numbers, n)
	}
	for room := -2; room <= 6; room++ {
		for count := range 8 {
			for sure := -2; sure <= count+2; sure++ {
				for _, spare := range []int{0, 1, 9} {
					held(t, made(room, "abcdefgh"[:count], sure, spare), numbers, []int{0, 1, 2, 3, 4, 5, 6, 7, 8, 256, 16384, 65536})
				}
			}
		}
	}
	held(t, api.Store{}, numbers, []int{0, 1})
	held(t, api.Store{Cap: 2}, numbers, []int{0, 1, 2, 3})
}

// TestGreat: P9.1 to P9.4, stores with the greatest room, and with more, which may not be.
func TestGreat(t *testing.T) {
	chance := rand.New(rand.NewSource(1))
	for _, room := range []int{16383, 16384, 16385} {
		for _, count := range []int{0, 1, 255, 256, 8192, room - 256, room - 1, room, room + 1} {
			b := make([]byte, count)
			chance.Read(b)
			for _, sure := range []int{-1, 0, 1, count / 2, count - 1, count, count + 1} {
				near := []int{-1, 0, 1, 256, sure, count - sure - 1, count - sure, count - sure + 1, count - 1, count, count + 1, room}
				left := max(room-count, 1)
				held(t, made(room, string(b), sure, 64), append(edges(), near...), []int{0, 1, left - 1, left, left + 1, 16384, 16385, 65536})
			}
		}
	}
}

// TestOrder: P9.2 and R2, what may not be is told ahead of what there is no room for; and no room is told even of one byte.
func TestOrder(t *testing.T) {
	for _, s := range []api.Store{made(-1, "", 0, 0), made(2, "abc", 0, 0), made(2, "ab", 3, 0), made(2, "ab", -1, 0), made(16385, "", 0, 0)} {
		if got, e := store.Write(s, make([]byte, 20000)); e != api.ErrArg || !store.Same(got, s) {
			t.Errorf("%v: %v, %d", told(s), told(got), e)
		}
	}
	full := made(2, "ab", 1, 0)
	if got, e := store.Write(full, []byte{0}); e != api.ErrFull || !store.Same(got, full) {
		t.Errorf("%v, %d", told(got), e)
	}
	none := api.Store{}
	if got, e := store.Write(none, []byte{0}); e != api.ErrFull || !store.Same(got, none) {
		t.Errorf("%v, %d", told(got), e)
	}
}

// TestBytes: P9.2, each byte is written as it is, of both parts, whichever it is.
func TestBytes(t *testing.T) {
	var all []byte
	for n := range 256 {
		all = append(all, byte(n))
	}
	s := wrote(t, wrote(t, made(600, "", 0, 0), string(all)), string(all))
	s = crashed(t, wrote(t, synced(t, s), string(all[:88])), 44)
	if want := string(all) + string(all) + string(all[:44]); !is(s, 600, want, 556) {
		t.Error(told(s))
	}
}

// TestStays: P9.4, in rows of calls by chance: what is sure stays till it is cut off, and what may be stays so.
func TestStays(t *testing.T) {
	chance := rand.New(rand.NewSource(2))
	for range 400 {
		s, _ := store.New(chance.Intn(60))
		sure := ""
		for range 60 {
			switch n := chance.Intn(25) - 3; chance.Intn(6) {
			case 0, 1, 2:
				b := make([]byte, max(n, 0))
				chance.Read(b)
				s = wrote(t, s, string(b))
			case 3:
				s = synced(t, s)
				sure = string(s.Data)
			case 4:
				s = crashed(t, s, n)
				if !strings.HasPrefix(string(s.Data), sure) {
					t.Errorf("what was sure is %q: %v", sure, told(s))
				}
				sure = string(s.Data)
			default:
				if s = cut(t, s, n); n >= 0 && n == len(s.Data) {
					sure = string(s.Data)
				}
			}
			if !store.May(s) || !strings.HasPrefix(string(s.Data), sure) || !strings.HasPrefix(sure, string(s.Data[:s.Sure])) {
				t.Errorf("what is sure is %q: %v", sure, told(s))
			}
		}
	}
}

// all are the answers of each call for a store, with errors and without.
func all(s api.Store, b []byte) []api.Store {
	var l []api.Store
	add := func(x api.Store, _ api.Errno) { l = append(l, x) }
	add(store.Write(s, b))
	add(store.Write(s, nil))
	add(store.Write(s, make([]byte, 20000)))
	add(store.Sync(s))
	for n := -1; n <= len(s.Data)+1; n++ {
		add(store.Cut(s, n))
		add(store.Crash(s, n), api.OK)
	}
	return l
}

// TestOwn: R3, what is handed in stays, also what lies behind it in memory; and what is answered is the caller's own, also with an error.
func TestOwn(t *testing.T) {
	for _, s := range []api.Store{made(12, "abcdefg", 3, 20), made(12, "abcdefg", 7, 0), made(7, "abcdefg", 3, 20), made(0, "", 0, 20), made(6, "abcdefg", 3, 20), made(12, "abcdefg", 8, 20), made(-1, "abcdefg", 0, 1)} {
		memory := s.Data[:cap(s.Data)]
		was, more := bytes.Clone(memory), []byte("xyz")
		first, again := all(s, more), all(s, more)
		for i, x := range first {
			if !store.Same(x, again[i]) {
				t.Errorf("%v: %v, then %v", told(s), told(x), told(again[i]))
			}
			clear(x.Data[:cap(x.Data)])
			_ = append(x.Data, "more"...)
		}
		if !bytes.Equal(memory, was) || string(more) != "xyz" {
			t.Errorf("what is handed in is changed: %q, %q", memory, more)
		}
		want := all(s, more)
		clear(memory)
		clear(more)
		for i, x := range again {
			if !store.Same(x, want[i]) {
				t.Errorf("what is answered is changed: %v, not %v", told(x), told(want[i]))
			}
		}
	}
}

// TestOwnPart: R3, a store's own bytes are written to it, those in the midst of it, and those behind it in memory.
func TestOwnPart(t *testing.T) {
	s := made(20, "abcdefg", 3, 20)
	copy(s.Data[7:27], "BEHIND")
	for from := range 8 {
		for to := from; to <= 13; to++ {
			part := s.Data[from:to]
			want := "abcdefg" + string(part)
			if got, e := store.Write(s, part); e != api.OK || !is(got, 20, want, 3) || string(s.Data[:13]) != "abcdefgBEHIND" {
				t.Errorf("from %d to %d: %v, %d", from, to, told(got), e)
			}
		}
	}
}
