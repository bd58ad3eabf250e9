package num_test

import (
	"bytes"
	"encoding/binary"
	"math"
	"math/rand"
	"slices"
	"testing"

	"pelican/api"
	"pelican/num"
)

// peer are the library's bytes of a number, the last k of its 8.
func peer(n uint64, k int) []byte {
	return binary.BigEndian.AppendUint64(nil, n)[8-k:]
}

// edges are numbers around those that a byte more is needed for.
func edges() []uint64 {
	all := []uint64{0, 1, 2, 44, 127, 128, 300, 0x0102030405060708, 0xf1e2d3c4b5a69788, math.MaxUint64}
	for bit := range 64 {
		n := uint64(1) << bit
		all = append(all, n-1, n, n+1, n|n>>9)
	}
	return all
}

// noSizes are those that no number has.
func noSizes() []int {
	return []int{0, -1, -2, -8, 9, 10, 16, 32, 64, 255, 256, 257, 1 << 32, 1<<32 + 1, math.MaxInt, math.MinInt, math.MinInt + 1}
}

// TestPut: P3.1, each number of each size that it fits, and of none that it does not.
func TestPut(t *testing.T) {
	for _, n := range edges() {
		for k := 1; k <= 8; k++ {
			b, is := num.Put(n, k)
			if k < 8 && n >= 1<<(8*k) {
				if is || len(b) != 0 {
					t.Errorf("%d does not fit %d bytes: %v, %v", n, k, b, is)
				}
			} else if !is || !bytes.Equal(b, peer(n, k)) {
				t.Errorf("%d of %d bytes: %v, %v", n, k, b, is)
			}
		}
		for _, k := range noSizes() {
			if b, is := num.Put(n, k); is || len(b) != 0 {
				t.Errorf("%d of %d bytes: %v, %v", n, k, b, is)
			}
		}
	}
}

// TestExamples: P3.1, those of the chapter.
func TestExamples(t *testing.T) {
	for _, x := range []struct {
		k    int
		want []byte
	}{{2, []byte{1, 44}}, {4, []byte{0, 0, 1, 44}}} {
		if b, is := num.Put(300, x.k); !is || !bytes.Equal(b, x.want) {
			t.Errorf("300 of %d bytes: %v, %v", x.k, b, is)
		}
	}
	if b, is := num.Put(300, 1); is || len(b) != 0 {
		t.Errorf("300 of 1 byte: %v, %v", b, is)
	}
}

// TestGet: P3.1, from each place on of each size, as far as there are bytes.
func TestGet(t *testing.T) {
	text := []byte{0, 255, 1, 128, 7, 0, 0, 254, 9, 127, 3, 2}
	for most := range len(text) + 1 {
		for at := range most + 3 {
			for k := 1; k <= 8; k++ {
				n, end := num.Get(text[:most], at, k)
				if at+k > most {
					if n != 0 || end != -1 {
						t.Errorf("%d bytes, from %d on %d: %d, %d", most, at, k, n, end)
					}
				} else if end != at+k || !bytes.Equal(peer(n, 8), append(make([]byte, 8-k), text[at:at+k]...)) {
					t.Errorf("%d bytes, from %d on %d: %x, %d", most, at, k, n, end)
				}
			}
		}
	}
}

// TestGetWrong: P3.1, no size, a place that is none, too few bytes.
func TestGetWrong(t *testing.T) {
	for _, b := range [][]byte{nil, {}, {1}, bytes.Repeat([]byte{1}, 20), bytes.Repeat([]byte{1}, 300)} {
		for _, at := range []int{0, 1, -1, len(b), len(b) - 1, -8, math.MinInt, math.MaxInt} {
			for _, k := range noSizes() {
				if n, end := num.Get(b, at, k); n != 0 || end != -1 {
					t.Errorf("%d bytes, from %d on %d: %d, %d", len(b), at, k, n, end)
				}
			}
		}
		for _, at := range []int{-1, -2, -8, math.MinInt, math.MinInt + 1, len(b), len(b) + 1, math.MaxInt, math.MaxInt - 1, math.MaxInt - 7, math.MaxInt - 8} {
			for k := 1; k <= 8; k++ {
				if n, end := num.Get(b, at, k); n != 0 || end != -1 {
					t.Errorf("%d bytes, from %d on %d: %d, %d", len(b), at, k, n, end)
				}
			}
		}
	}
	// Bytes that lie behind the end in memory are none of b.
	roomy := bytes.Repeat([]byte{1}, 20)[:3]
	if n, end := num.Get(roomy, 2, 2); n != 0 || end != -1 {
		t.Errorf("behind the end: %d, %d", n, end)
	}
}

// row is a row of numbers of all sizes, its bytes by the library, and its numbers and sizes apart.
func row(chance *rand.Rand, count int) (l []api.Num, b []byte, ns []uint64, sizes []int) {
	for range count {
		k := 1 + chance.Intn(8)
		n := chance.Uint64() >> (64 - 8*k)
		if chance.Intn(4) == 0 {
			n >>= chance.Intn(8 * k)
		}
		l = append(l, api.Num{N: n, K: k})
		b = append(b, peer(n, k)...)
		ns, sizes = append(ns, n), append(sizes, k)
	}
	return l, b, ns, sizes
}

// TestCat: P3.2, one behind the other, from none to 40.
func TestCat(t *testing.T) {
	chance := rand.New(rand.NewSource(1))
	for count := range 41 {
		for range 20 {
			l, want, _, _ := row(chance, count)
			if b, is := num.Cat(l); !is || !bytes.Equal(b, want) {
				t.Errorf("%v: %v, %v", l, b, is)
			}
		}
	}
	if b, is := num.Cat(nil); !is || len(b) != 0 {
		t.Errorf("nil: %v, %v", b, is)
	}
	if b, is := num.Cat([]api.Num{}); !is || len(b) != 0 {
		t.Errorf("none: %v, %v", b, is)
	}
	full := slices.Repeat([]api.Num{{N: math.MaxUint64, K: 8}}, 40)
	if b, is := num.Cat(full); !is || !bytes.Equal(b, bytes.Repeat([]byte{255}, 320)) {
		t.Errorf("40 of 8 bytes: %v, %v", b, is)
	}
}

// TestCatWrong: P3.2, more than 40, and one that can't be put, at each place.
func TestCatWrong(t *testing.T) {
	chance := rand.New(rand.NewSource(2))
	for _, count := range []int{41, 42, 80, 256, 257, 1000} {
		l, _, _, _ := row(chance, count)
		if b, is := num.Cat(l); is || len(b) != 0 {
			t.Errorf("%d numbers: %v, %v", count, b, is)
		}
	}
	bad := []api.Num{{N: 256, K: 1}, {N: 1 << 16, K: 2}, {N: 1 << 56, K: 7}, {N: math.MaxUint64, K: 7}}
	for _, k := range noSizes() {
		bad = append(bad, api.Num{K: k}, api.Num{N: 1, K: k})
	}
	for _, count := range []int{1, 2, 7, 40} {
		for at := range count {
			for _, x := range bad {
				l, _, _, _ := row(chance, count)
				l[at] = x
				if b, is := num.Cat(l); is || len(b) != 0 {
					t.Errorf("%+v at %d of %d: %v, %v", x, at, count, b, is)
				}
			}
		}
	}
}

// TestCut: P3.2, the numbers in order, from none to 40.
func TestCut(t *testing.T) {
	chance := rand.New(rand.NewSource(3))
	for count := range 41 {
		for range 20 {
			_, b, want, sizes := row(chance, count)
			if ns, is := num.Cut(b, sizes); !is || !slices.Equal(ns, want) {
				t.Errorf("%v by %v: %v, %v", b, sizes, ns, is)
			}
		}
	}
	for _, b := range [][]byte{nil, {}} {
		for _, sizes := range [][]int{nil, {}} {
			if ns, is := num.Cut(b, sizes); !is || len(ns) != 0 {
				t.Errorf("no bytes by no sizes: %v, %v", ns, is)
			}
		}
	}
	if ns, is := num.Cut(bytes.Repeat([]byte{255}, 320), slices.Repeat([]int{8}, 40)); !is || !slices.Equal(ns, slices.Repeat([]uint64{math.MaxUint64}, 40)) {
		t.Errorf("40 of 8 bytes: %v, %v", ns, is)
	}
}

// TestCutWrong: P3.2, more than 40, one that is no size, and bytes that are too few or too many.
func TestCutWrong(t *testing.T) {
	refused := func(b []byte, sizes []int) {
		t.Helper()
		if ns, is := num.Cut(b, sizes); is || len(ns) != 0 {
			t.Errorf("%d bytes by %v: %v, %v", len(b), sizes, ns, is)
		}
	}
	chance := rand.New(rand.NewSource(4))
	for _, count := range []int{41, 42, 80, 256, 257, 1000} {
		_, b, _, sizes := row(chance, count)
		refused(b, sizes)
	}
	for _, count := range []int{0, 1, 2, 7, 40} {
		_, b, _, sizes := row(chance, count)
		for n := range len(b) {
			refused(b[:n], sizes)
		}
		for _, more := range []int{1, 2, 7, 8, 9, 256, 1 << 16} {
			refused(append(slices.Clone(b), make([]byte, more)...), sizes)
		}
		for at := range count {
			for _, k := range noSizes() {
				wrong := slices.Clone(sizes)
				wrong[at] = k
				refused(b, wrong)
			}
		}
	}
	// As many bytes together, but by what is no size.
	four := []byte{1, 2, 3, 4}
	for _, sizes := range [][]int{{0, 4}, {4, 0}, {5, -1}, {-1, 5}, {-4, 8}, {9, -5}, {12, -8}, {2, 0, 2}} {
		refused(four, sizes)
	}
	refused(nil, []int{0})
	refused(nil, []int{1, -1})
	refused(make([]byte, 9), []int{9})
	refused(four, []int{math.MinInt, math.MinInt, 4})
	refused(four, []int{math.MaxInt, math.MaxInt, 6})
	// Bytes that lie behind the end in memory are none of b.
	refused(four[:2], []int{1, 3})
}

// TestBack: P3.3, what is put is got, what is cut is put together again, and the lesser one stands ahead.
func TestBack(t *testing.T) {
	for _, n := range edges() {
		for k := 1; k <= 8; k++ {
			b, is := num.Put(n, k)
			if !is {
				continue
			}
			if got, end := num.Get(b, 0, k); got != n || end != k {
				t.Errorf("%d of %d bytes: %d, %d", n, k, got, end)
			}
			for _, m := range edges() {
				if c, is := num.Put(m, k); is && (n < m) != (bytes.Compare(b, c) < 0) {
					t.Errorf("%d and %d of %d bytes", n, m, k)
				}
			}
		}
	}
	chance := rand.New(rand.NewSource(5))
	for range 500 {
		l, _, ns, sizes := row(chance, chance.Intn(41))
		b, _ := num.Cat(l)
		if got, is := num.Cut(b, sizes); !is || !slices.Equal(got, ns) {
			t.Errorf("%v: %v, %v", l, got, is)
		}
		chance.Read(b)
		cut, _ := num.Cut(b, sizes)
		for i := range l {
			l[i].N = cut[i]
		}
		if again, is := num.Cat(l); !is || !bytes.Equal(again, b) {
			t.Errorf("%v by %v: %v, %v", b, sizes, again, is)
		}
	}
}

// TestShared: R3 and R5, what is handed in stays, and what is answered is the caller's own.
func TestShared(t *testing.T) {
	l := append(make([]api.Num, 0, 9), api.Num{N: 300, K: 2}, api.Num{N: 7, K: 1}, api.Num{N: 1 << 60, K: 8})
	sizes := append(make([]int, 0, 9), 2, 1, 8)
	b, _ := num.Cat(l)
	lWas, sizesWas, bWas := slices.Clone(l[:9]), slices.Clone(sizes[:9]), slices.Clone(b)
	roomy := append(make([]byte, 0, 64), b...)
	ns, _ := num.Cut(roomy, sizes)
	num.Get(roomy, 1, 8)
	num.Cat(l)
	if !slices.Equal(l[:9], lWas) || !slices.Equal(sizes[:9], sizesWas) || !bytes.Equal(roomy[:64], append(slices.Clone(b), make([]byte, 53)...)) {
		t.Error("what is handed in is changed")
	}
	nsWas := slices.Clone(ns)
	clear(roomy)
	clear(l)
	clear(sizes)
	if !slices.Equal(ns, nsWas) || !bytes.Equal(b, bWas) {
		t.Error("an answer shares what was handed in")
	}
	clear(b)
	clear(ns)
	again, _ := num.Cat(lWas[:3])
	cut, _ := num.Cut(bWas, sizesWas[:3])
	if !bytes.Equal(again, bWas) || !slices.Equal(cut, nsWas) {
		t.Error("an answer hangs on what was asked before")
	}
	one, _ := num.Put(300, 2)
	clear(one)
	if two, _ := num.Put(300, 2); !bytes.Equal(two, []byte{1, 44}) {
		t.Error("two that are put share their bytes")
	}
}
