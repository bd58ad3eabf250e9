package mac_test

import (
	"bytes"
	"crypto/hmac"
	"crypto/sha256"
	"encoding/hex"
	"math/rand"
	"slices"
	"strings"
	"testing"

	"pelican/api"
	"pelican/mac"
)

// some answers n bytes that do not repeat in step with blocks, other ones for each seed.
func some(seed, n int) []byte {
	b := make([]byte, n)
	rand.New(rand.NewSource(int64(seed)<<32 | int64(n))).Read(b)
	return b
}

// peer is the library's own tag.
func peer(key, b []byte) api.Id {
	h := hmac.New(sha256.New, key)
	h.Write(b)
	return api.Id(h.Sum(nil))
}

// TestBlock: P2.1, keys of each length around blocks, as they are or by their sum.
func TestBlock(t *testing.T) {
	for _, n := range append(lengths(200), 1000, api.MaxHash) {
		key := some(1, n)
		want := key
		if n > 64 {
			sum := sha256.Sum256(key)
			want = sum[:]
		}
		want = append(slices.Clone(want), make([]byte, 64-len(want))...)
		if got := mac.Block(key); !bytes.Equal(got, want) {
			t.Errorf("a key of %d bytes: %x", n, got)
		}
	}
	if !bytes.Equal(mac.Block(nil), make([]byte, 64)) {
		t.Errorf("no key: %x", mac.Block(nil))
	}
	if got := mac.Block(some(1, api.MaxHash+1)); !bytes.Equal(got, make([]byte, 64)) {
		t.Errorf("a key that has no sum: %x", got)
	}
}

// lengths are all from 0 on that are below n.
func lengths(n int) []int {
	var all []int
	for i := range n {
		all = append(all, i)
	}
	return all
}

// TestExamples: P2.2, tags that are told elsewhere (the chapter's, and all of RFC 4231).
func TestExamples(t *testing.T) {
	counting := make([]byte, 25)
	for i := range counting {
		counting[i] = byte(i + 1)
	}
	long := bytes.Repeat([]byte{0xaa}, 131)
	for i, x := range []struct {
		key        []byte
		text, want string
	}{
		{bytes.Repeat([]byte{0x0b}, 20), "Hi There", "b0344c61d8db38535ca8afceaf0bf12b881dc200c9833da726e9376c2e32cff7"},
		{[]byte("Jefe"), "what do ya want for nothing?", "5bdcc146bf60754e6a042426089575c75a003f089d2739839dec58b964ec3843"},
		{bytes.Repeat([]byte{0xaa}, 20), strings.Repeat("\xdd", 50), "773ea91e36800e46854db8ebd09181a72959098b3ef8c122d9635514ced565fe"},
		{counting, strings.Repeat("\xcd", 50), "82558a389a443c0ea4cc819899f2083a85f0faa3e578f8077a2e3ff46729665b"},
		{bytes.Repeat([]byte{0x0c}, 20), "Test With Truncation", "a3b6167473100ee06e0c796c2955552b"},
		{long, "Test Using Larger Than Block-Size Key - Hash Key First", "60e431591ee0b67f0d8a26aacbf5b77f8e0bc6213728c5140546040f0ee37f54"},
		{long, "This is a test using a larger than block-size key and a larger than block-size data. The key needs to be hashed before being used by the HMAC algorithm.", "9b09ffa71b942fcb27635fbcd5b0e944bfdc63644f0713938a7f51535c3a35e2"},
	} {
		id := mac.Tag(x.key, []byte(x.text))
		if !strings.HasPrefix(hex.EncodeToString(id[:]), x.want) {
			t.Errorf("%d: %x", i, id)
		}
	}
}

// TestTag: P2.2, keys and texts of lengths around blocks, and none.
func TestTag(t *testing.T) {
	for _, k := range []int{0, 1, 16, 31, 32, 33, 63, 64, 65, 66, 127, 128, 129, 1000} {
		for _, n := range append(lengths(150), 1000, 5000) {
			key, text := some(1, k), some(2, n)
			if got := mac.Tag(key, text); got != peer(key, text) {
				t.Errorf("a key of %d bytes, a text of %d: %x", k, n, got)
			}
		}
	}
	if mac.Tag(nil, nil) != peer(nil, nil) || mac.Tag([]byte{}, []byte{}) != peer(nil, nil) {
		t.Error("no key and no text")
	}
}

// TestTagFull: P2.2, by the words: a block and a text that are too many for a sum have noughts for one.
func TestTagFull(t *testing.T) {
	key := some(1, 20)
	for _, n := range []int{api.MaxHash - 65, api.MaxHash - 64} {
		if text := some(2, n); mac.Tag(key, text) != peer(key, text) {
			t.Errorf("a text of %d bytes", n)
		}
	}
	pad := bytes.Repeat([]byte{0x5c}, 64)
	for i, b := range key {
		pad[i] ^= b
	}
	want := api.Id(sha256.Sum256(append(pad, make([]byte, 32)...)))
	for _, n := range []int{api.MaxHash - 63, api.MaxHash, api.MaxHash + 1, 2 * api.MaxHash} {
		if got := mac.Tag(key, some(2, n)); got != want {
			t.Errorf("a text of %d bytes: %x", n, got)
		}
	}
	for _, n := range []int{api.MaxHash, api.MaxHash + 1} {
		key := some(1, n)
		if mac.Tag(key, []byte("text")) != peer(mac.Block(key), []byte("text")) {
			t.Errorf("a key of %d bytes", n)
		}
	}
}

// TestSame: P2.2, as many bytes, and the same one by one.
func TestSame(t *testing.T) {
	if !mac.Same(nil, nil) || !mac.Same(nil, []byte{}) || !mac.Same([]byte{}, nil) {
		t.Error("no bytes")
	}
	for n := range 70 {
		a := some(1, n)
		if !mac.Same(a, a) || !mac.Same(a, slices.Clone(a)) {
			t.Errorf("%d bytes are not the same", n)
		}
		for _, b := range [][]byte{append(slices.Clone(a), 0), append(slices.Clone(a), 7), append([]byte{0}, a...)} {
			if mac.Same(a, b) || mac.Same(b, a) {
				t.Errorf("%d bytes and %d are the same", n, len(b))
			}
		}
		for i := range n {
			for bit := range 8 {
				b := slices.Clone(a)
				b[i] ^= 1 << bit
				if mac.Same(a, b) || mac.Same(b, a) {
					t.Errorf("%d bytes, of which %d has another bit %d", n, i, bit)
				}
			}
		}
	}
}

// TestSameSeveral: P2.2, other bytes at several places do not make up for one another.
func TestSameSeveral(t *testing.T) {
	for _, x := range [][2]string{
		{"ab", "ba"},
		{"\x00\x00", "\x01\x01"},
		{"\x00\x00", "\x80\x80"},
		{"\x00\x00", "\x01\xff"},
		{"\x00\x00\x00", "\x01\x02\x03"},
		{strings.Repeat("\x00", 256), strings.Repeat("\x01", 256)},
		{"same at end", "SAME at end"},
	} {
		if mac.Same([]byte(x[0]), []byte(x[1])) {
			t.Errorf("%q and %q are the same", x[0], x[1])
		}
	}
}

// TestDerive: P2.3, labels of each length that may be, counted in bytes.
func TestDerive(t *testing.T) {
	key := some(1, 32)
	labels := []string{"\x00", "ü", strings.Repeat("ü", 16), "\xff\xfe"}
	for n := range 32 {
		labels = append(labels, strings.Repeat("l", n+1))
	}
	for _, label := range labels {
		for _, n := range []int{0, 1, 8, 32, 63, 64, 65, 1000} {
			ctx := some(2, n)
			text := string([]byte{byte(len(label))}) + label + string(ctx)
			if got, is := mac.Derive(key, label, ctx); !is || got != peer(key, []byte(text)) {
				t.Errorf("%q and %d bytes: %x, %v", label, n, got, is)
			}
		}
	}
	for _, key := range [][]byte{nil, some(1, 1), some(1, 64), some(1, 65), some(1, 1000)} {
		if got, is := mac.Derive(key, "label", nil); !is || got != peer(key, []byte("\x05label")) {
			t.Errorf("a key of %d bytes: %x, %v", len(key), got, is)
		}
	}
	long := some(2, api.MaxHash)
	if got, is := mac.Derive(key, "label", long); !is || got != mac.Tag(key, append([]byte("\x05label"), long...)) {
		t.Errorf("more than a sum may have: %x, %v", got, is)
	}
}

// TestDeriveWrong: P2.3, labels that may not be.
func TestDeriveWrong(t *testing.T) {
	labels := []string{"", strings.Repeat("ü", 17)}
	for _, n := range []int{33, 34, 64, 255, 256, 257, 288, 1000, 65536 + 1} {
		labels = append(labels, strings.Repeat("l", n))
	}
	for _, label := range labels {
		for _, ctx := range [][]byte{nil, {}, {1}, some(2, 100)} {
			if got, is := mac.Derive([]byte("key"), label, ctx); is || got != (api.Id{}) {
				t.Errorf("a label of %d bytes: %x, %v", len(label), got, is)
			}
		}
	}
}

// TestNoughtsBehind: P2.4, a key has the tags that it has with noughts behind, up to a block and no further.
func TestNoughtsBehind(t *testing.T) {
	text := some(2, 100)
	for n := range 65 {
		key := some(1, n)
		want := mac.Tag(key, text)
		for len(key) < 64 {
			key = append(key, 0)
			if mac.Tag(key, text) != want {
				t.Fatalf("a key of %d bytes has another tag with noughts, %d in all", n, len(key))
			}
		}
		if mac.Tag(append(key, 0), text) == want {
			t.Errorf("a key of %d bytes has its tag with noughts behind a block", n)
		}
	}
	long := some(1, 65)
	sum := sha256.Sum256(long)
	if mac.Tag(long, text) != mac.Tag(sum[:], text) {
		t.Error("a long key has another tag than its sum")
	}
}

// TestApart: P2.4, other texts and other keys have other tags, and labels do not run into what is behind.
func TestApart(t *testing.T) {
	seen := map[api.Id]string{}
	add := func(what string, id api.Id) {
		if was, is := seen[id]; is {
			t.Errorf("%s has the tag of %s", what, was)
		}
		seen[id] = what
	}
	key := some(1, 32)
	for n := range 130 {
		add("noughts", mac.Tag(key, make([]byte, n)))
		add("some", mac.Tag(key, some(2, n+1)))
	}
	for bit := range 8 * len(key) {
		other := slices.Clone(key)
		other[bit/8] ^= 1 << (bit % 8)
		add("another key", mac.Tag(other, nil))
	}
	// One text, parted at each place: label and ctx joined are the same each time.
	whole := "\x01\x02\x03\x04\x05\x06\x07\x08abcdefghijklmnopqrstuvw"
	for n := 1; n <= len(whole); n++ {
		id, _ := mac.Derive(key, whole[:n], []byte(whole[n:]))
		add("a label of "+whole[:n], id)
	}
}

// TestShared: R3 and R5, what is handed in stays, and what is answered is the caller's own.
func TestShared(t *testing.T) {
	for _, n := range []int{0, 3, 32, 63, 64, 65, 200} {
		key, text := append(make([]byte, 0, 512), some(1, n)...), append(make([]byte, 0, 512), some(2, n)...)
		keyWas, textWas := slices.Clone(key[:512]), slices.Clone(text[:512])
		block, tag := mac.Block(key), mac.Tag(key, text)
		id, _ := mac.Derive(key, "label", text)
		mac.Same(key, text)
		if !bytes.Equal(key[:512], keyWas) || !bytes.Equal(text[:512], textWas) {
			t.Errorf("%d bytes: what is handed in is changed", n)
		}
		blockWas := slices.Clone(block)
		clear(key)
		if !bytes.Equal(block, blockWas) {
			t.Errorf("%d bytes: a block shares its key", n)
		}
		copy(key, keyWas)
		clear(block)
		if !bytes.Equal(key, keyWas[:n]) {
			t.Errorf("%d bytes: a key shares its block", n)
		}
		again, _ := mac.Derive(key, "label", text)
		if mac.Tag(key, text) != tag || again != id || !bytes.Equal(mac.Block(key), blockWas) {
			t.Errorf("%d bytes: an answer hangs on what was asked before", n)
		}
	}
	a := mac.Tag(some(1, 9), some(2, 9))
	both := some(1, 9)
	if mac.Tag(both, both) != peer(both, both) || mac.Tag(some(1, 9), some(2, 9)) != a {
		t.Error("a key that is its text")
	}
}
