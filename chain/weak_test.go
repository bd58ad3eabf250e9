package chain_test

import (
	"bytes"
	"crypto/sha256"
	"encoding/json"
	"math/rand"
	"os"
	"os/exec"
	"path/filepath"
	"slices"
	"strings"
	"testing"

	"pelican/api"
	"pelican/chain"
	"pelican/sha"
)

// Nobody has two texts of one sum, so what Clash tells of them is looked at with sums of few values, of which one is noughts: TestWeak runs all other tests of this package again, with this package sha instead.
const weakSha = `package sha

import "pelican/api"

func Sum(b []byte) api.Id {
	n := uint32(1)
	for _, x := range b {
		n = (n ^ uint32(x)) * 16777619
	}
	n = (n >> 8) % VALUES
	return api.Id{0: byte(n), 31: byte(n)}
}

func New() api.Hash         { return api.Hash{} }
func May(h api.Hash) bool   { return true }
func End(h api.Hash) api.Id { return Sum(h.Rest) }

func Add(h api.Hash, b []byte) api.Hash {
	h.Rest = append(append([]byte{}, h.Rest...), b...)
	return h
}
`

// weak tells whether sums are those of weakSha.
func weak() bool { return sha.Sum(nil) != sha256.Sum256(nil) }

// TestWeak: all other tests, with sums of 1, 2 and 5 values.
func TestWeak(t *testing.T) {
	for _, values := range []string{"1", "2", "5"} {
		t.Run(values, func(t *testing.T) {
			t.Parallel()
			overlay := overlaid(t, strings.ReplaceAll(weakSha, "VALUES", values))
			// This test is left out there, so that it can't run itself for ever.
			run := exec.CommandContext(t.Context(), "go", "test", "-count=1", "-v", "-vet=off", "-skip=^TestWeak$", "-overlay="+overlay, ".")
			told, err := run.CombinedOutput()
			// Weak sums skip TestKnown: so it tells that they were there.
			if err != nil || !strings.Contains(string(told), "--- SKIP: TestKnown") || !strings.Contains(string(told), "--- PASS: TestClashes") {
				t.Errorf("%v\n%s", err, told)
			}
		})
	}
}

// overlaid is a file that tells go to take a text for all of package sha.
func overlaid(t *testing.T, text string) string {
	t.Helper()
	sums, err := filepath.Abs(filepath.Join("..", "sha"))
	if err != nil {
		t.Fatal(err)
	}
	files, err := filepath.Glob(filepath.Join(sums, "*.go"))
	if err != nil {
		t.Fatal(err)
	}
	folder := t.TempDir()
	write := func(name string, b []byte) string {
		path := filepath.Join(folder, name)
		if err := os.WriteFile(path, b, 0o600); err != nil {
			t.Fatal(err)
		}
		return path
	}
	instead := map[string]string{}
	for _, file := range files {
		instead[file] = "" // no file at all
	}
	instead[filepath.Join(sums, "sha.go")] = write("sha.go", []byte(text))
	b, err := json.Marshal(map[string]any{"Replace": instead})
	if err != nil {
		t.Fatal(err)
	}
	return write("overlay.json", b)
}

// clashed are the two texts that are to be told of lists, and how many of the last entries are left off for them (-1: there are no such texts), by the chapter's words.
func clashed(a, b []api.Entry) ([]byte, []byte, int) {
	wrong := func(e api.Entry) bool { return !may(e) }
	if len(a) > 264 || len(b) > 264 || slices.ContainsFunc(a, wrong) || slices.ContainsFunc(b, wrong) {
		return nil, nil, -1
	}
	x, y := texts(a), texts(b)
	slices.Reverse(x)
	slices.Reverse(y)
	if sha.Sum(x[0]) != sha.Sum(y[0]) || slices.Equal(a, b) {
		return nil, nil, -1
	}
	for i := range min(len(x), len(y)) {
		if !bytes.Equal(x[i], y[i]) {
			return x[i], y[i], i
		}
	}
	panic("two lists that are not the same have the same texts")
}

// clash holds one call of Clash against the chapter's words, and what follows (P11.4); it answers how many entries are left off.
func clash(t *testing.T, a, b []api.Entry) int {
	t.Helper()
	x, y, is := chain.Clash(a, b)
	s, u, off := clashed(a, b)
	if !bytes.Equal(x, s) || !bytes.Equal(y, u) || is != (off >= 0) {
		t.Errorf("%+v, %+v: %v, %v, %v, not %v, %v", a, b, x, y, is, s, u)
	}
	if is && (bytes.Equal(x, y) || sha.Sum(x) != sha.Sum(y)) {
		t.Errorf("%+v, %+v: %v and %v are no two texts of one sum", a, b, x, y)
	}
	_, h, good := chain.Put(a)
	_, k, too := chain.Put(b)
	if one := good && too && h == k; one && !is && !slices.Equal(a, b) {
		t.Errorf("%+v and %+v have one head, but no texts are told", a, b)
	}
	return off
}

// lists are all lists of up to 3 of some entries.
func lists() [][]api.Entry {
	all := [][]api.Entry{nil}
	for at := 0; len(all[at]) < 3; at++ {
		for _, e := range []api.Entry{{}, {Tick: 1}, {Kind: 3, Code: 7}, {Kind: 1, Sess: 1 << 60, Arg: 9}} {
			all = append(all, append(slices.Clone(all[at]), e))
		}
	}
	return all
}

// TestClashes: P11.3 and P11.4, all lists of up to 3 of 4 entries against each other; when sums are weak, texts of each place are told.
func TestClashes(t *testing.T) {
	times := map[int]int{}
	all := lists()
	for _, a := range all {
		for _, b := range all {
			times[clash(t, a, b)]++
		}
	}
	if n := len(all) * len(all); !weak() {
		if times[-1] != n {
			t.Error("two texts of one sum", times)
		}
	} else if times[0] < n/100 || times[1] < 5 || times[2] < 5 {
		t.Error("too few texts of one sum", times)
	}
}

// TestClashGreat: P11.3, lists as long as there may be, and longer, that differ in one entry, or in how many there are.
func TestClashGreat(t *testing.T) {
	chance := rand.New(rand.NewSource(12))
	for _, count := range []int{1, 10, 263, 264, 265} {
		l := some(chance, count)
		clash(t, l, l)
		clash(t, l, slices.Clone(l))
		for _, at := range []int{0, 1, count / 2, count - 2, count - 1} {
			if at < 0 || at >= count {
				continue
			}
			other := slices.Clone(l)
			other[at].Tick ^= 1
			clash(t, l, other)
			clash(t, other, l)
			clash(t, l, l[:at])
			clash(t, l[at:], l)
			clash(t, l, slices.Insert(slices.Clone(l), at, drawn(chance)))
		}
		clash(t, l, make([]api.Entry, 264))
		clash(t, make([]api.Entry, 265), l)
		clash(t, make([]api.Entry, 1<<16), make([]api.Entry, 1<<16+1))
	}
}

// TestClashWrong: P11.3, of lists of which one, or both, have no Put nothing is told.
func TestClashWrong(t *testing.T) {
	chance := rand.New(rand.NewSource(13))
	for _, e := range wrong() {
		for count := range 4 {
			l := some(chance, count)
			bad := append(slices.Clone(l), e)
			first := append([]api.Entry{e}, l...)
			for _, x := range [][2][]api.Entry{{l, bad}, {bad, l}, {bad, bad}, {bad, first}, {l, first}, {first, l}, {nil, bad}, {first, nil}} {
				if off := clash(t, x[0], x[1]); off != -1 {
					t.Error(off)
				}
			}
		}
	}
}

// TestClashNone: P11.3 and R6, no entries may be nil or empty.
func TestClashNone(t *testing.T) {
	none := [][]api.Entry{nil, {}, make([]api.Entry, 0, 3)}
	for _, a := range none {
		for _, b := range none {
			if off := clash(t, a, b); off != -1 {
				t.Error(off)
			}
		}
		clash(t, a, make([]api.Entry, 1))
		clash(t, make([]api.Entry, 1), a)
	}
}

// TestClashOwn: R3, what is handed in stays, and the two texts share nothing.
func TestClashOwn(t *testing.T) {
	for _, a := range lists() {
		for _, b := range lists() {
			l, m := slices.Clone(a), slices.Clone(b)
			s, u, _ := clashed(a, b)
			x, y, _ := chain.Clash(l, m)
			z, _, _ := chain.Clash(l, m)
			clear(x[:cap(x)])
			if !bytes.Equal(y, u) || !bytes.Equal(z, s) {
				t.Error("two texts share their bytes")
			}
			clear(y[:cap(y)])
			if !slices.Equal(l, a) || !slices.Equal(m, b) || !bytes.Equal(z, s) {
				t.Error("what is handed in is changed")
			}
		}
	}
}
