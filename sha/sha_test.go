package sha_test

import (
	"bytes"
	"crypto/sha256"
	"encoding"
	"encoding/binary"
	"encoding/hex"
	"hash"
	"math/big"
	"math/rand"
	"testing"

	"pelican/api"
	"pelican/sha"
)

// some answers n bytes that do not repeat in step with blocks.
func some(n int) []byte {
	b := make([]byte, n)
	rand.New(rand.NewSource(int64(n))).Read(b)
	return b
}

func same(g, h api.Hash) bool {
	return g.H == h.H && g.Len == h.Len && bytes.Equal(g.Rest, h.Rest)
}

// peer is the library's own sum, set to go on from a state.
func peer(t *testing.T, h api.Hash) hash.Hash {
	t.Helper()
	b := []byte("sha\x03")
	for _, x := range h.H {
		b = binary.BigEndian.AppendUint32(b, x)
	}
	b = append(b, h.Rest...)
	b = append(b, make([]byte, api.Block-len(h.Rest))...)
	b = binary.BigEndian.AppendUint64(b, uint64(h.Len))
	d := sha256.New()
	if err := d.(encoding.BinaryUnmarshaler).UnmarshalBinary(b); err != nil {
		t.Fatal(err)
	}
	return d
}

// peerSum is what the library tells of the bytes that follow a state.
func peerSum(t *testing.T, h api.Hash, b []byte) api.Id {
	t.Helper()
	d := peer(t, h)
	d.Write(b)
	return api.Id(d.Sum(nil))
}

// peerH is the register that the library has behind whole blocks.
func peerH(t *testing.T, h api.Hash, b []byte) [8]uint32 {
	t.Helper()
	d := peer(t, h)
	d.Write(b)
	out, err := d.(encoding.BinaryMarshaler).MarshalBinary()
	if err != nil {
		t.Fatal(err)
	}
	var r [8]uint32
	for i := range r {
		r[i] = binary.BigEndian.Uint32(out[4+4*i:])
	}
	return r
}

// wrong are states that may not be.
func wrong() []api.Hash {
	first := sha.New().H
	return []api.Hash{
		{H: first, Len: -1},
		{H: first, Len: -64},
		{H: first, Len: -1, Rest: make([]byte, 63)},
		{H: first, Len: -1 << 63},
		{H: first, Len: -1<<63 + 1, Rest: make([]byte, 1)},
		{H: first, Len: 1},
		{H: first, Len: 63, Rest: make([]byte, 62)},
		{H: first, Len: 63, Rest: make([]byte, 64)},
		{H: first, Len: 64, Rest: make([]byte, 64)},
		{H: first, Len: 128, Rest: make([]byte, 1)},
		{H: first, Rest: make([]byte, 1)},
		{H: first, Rest: make([]byte, 64)},
		{H: first, Len: api.MaxHash + 1, Rest: make([]byte, 1)},
		{H: first, Len: api.MaxHash + 64},
		{H: first, Len: 1<<63 - 1, Rest: make([]byte, 63)},
	}
}

// TestNew: P1.1, the first register by the square roots that the chapter names.
func TestNew(t *testing.T) {
	h := sha.New()
	if len(h.Rest) != 0 || h.Len != 0 || !sha.May(h) {
		t.Errorf("New: %+v", h)
	}
	for i, p := range []int64{2, 3, 5, 7, 11, 13, 17, 19} {
		root := new(big.Int).Lsh(big.NewInt(p), 64)
		root.Sqrt(root)
		if h.H[i] != uint32(root.Uint64()) {
			t.Errorf("register %d: %x", i, h.H[i])
		}
	}
	h.H[0] = 0
	if sha.New().H[0] == 0 {
		t.Error("New shares its register")
	}
}

// TestMay: P1.1, which states may be.
func TestMay(t *testing.T) {
	free := [8]uint32{1, 1 << 31, 3}
	for n := range 200 {
		for _, k := range []int{n % 64, n%64 + 1, n%64 + 64} {
			h := api.Hash{H: free, Rest: make([]byte, k), Len: n}
			if sha.May(h) != (k == n%64) {
				t.Errorf("Len %d, Rest of %d: %v", n, k, sha.May(h))
			}
		}
	}
	for _, h := range []api.Hash{{}, {H: free}, {Len: api.MaxHash}, {Len: api.MaxHash - 1, Rest: make([]byte, 63)}} {
		if !sha.May(h) {
			t.Errorf("Len %d, Rest of %d may not be", h.Len, len(h.Rest))
		}
	}
	for i, h := range wrong() {
		if sha.May(h) {
			t.Errorf("wrong %d may be", i)
		}
	}
}

// TestWrong: P1.1 and P1.2, what may not be makes noughts.
func TestWrong(t *testing.T) {
	for i, h := range wrong() {
		for _, b := range [][]byte{nil, {}, {1}, make([]byte, 64), make([]byte, 1000)} {
			if !same(sha.Add(h, b), api.Hash{}) {
				t.Errorf("wrong %d: Add of %d bytes: %+v", i, len(b), sha.Add(h, b))
			}
		}
		if sha.End(h) != (api.Id{}) {
			t.Errorf("wrong %d: End: %x", i, sha.End(h))
		}
	}
}

// TestAdd: P1.1, register, Rest and Len of a state, from any register on.
func TestAdd(t *testing.T) {
	for _, was := range []int{0, 1, 2, 55, 56, 63, 64, 65, 127, 128, 1000} {
		for _, more := range []int{0, 1, 8, 9, 62, 63, 64, 65, 127, 128, 129, 640, 5000} {
			text := some(was + more)
			h := api.Hash{H: [8]uint32{0, 1, 1 << 31, 1<<32 - 1, 5, 0xabcdef01, 7, 8}}
			h.Rest, h.Len = text[was-was%64:was], was
			got := sha.Add(h, text[was:])
			n := was + more
			if got.Len != n || !bytes.Equal(got.Rest, text[n-n%64:]) || got.H != peerH(t, h, text[was:]) {
				t.Errorf("%d and %d bytes: %+v", was, more, got)
			}
			if !sha.May(got) || sha.End(got) != peerSum(t, h, text[was:]) {
				t.Errorf("%d and %d bytes: End: %x", was, more, sha.End(got))
			}
		}
	}
}

// TestFull: P1.1, MaxHash bytes go in, one more does not.
func TestFull(t *testing.T) {
	text := some(api.MaxHash + 1)
	full := text[:api.MaxHash]
	for _, was := range []int{0, 1, 64, 1000, api.MaxHash - 64, api.MaxHash - 1, api.MaxHash} {
		h := sha.Add(sha.New(), full[:was])
		if !same(sha.Add(h, text[was:]), api.Hash{}) {
			t.Errorf("%d bytes, and one more than there may be", was)
		}
		got := sha.Add(h, full[was:])
		if got.Len != api.MaxHash || len(got.Rest) != 0 || sha.End(got) != api.Id(sha256.Sum256(full)) {
			t.Errorf("%d bytes, and as many as there may be: %+v", was, got)
		}
		if !same(sha.Add(got, nil), got) {
			t.Errorf("%d bytes: no bytes change what is full", was)
		}
	}
}

// TestExamples: P1.2, sums that are told elsewhere.
func TestExamples(t *testing.T) {
	for text, want := range map[string]string{
		"":    "e3b0c44298fc1c149afbf4c8996fb92427ae41e4649b934ca495991b7852b855",
		"abc": "ba7816bf8f01cfea414140de5dae2223b00361a396177a9cb410ff61f20015ad",
		"abcdbcdecdefdefgefghfghighijhijkijkljklmklmnlmnomnopnopq": "248d6a61d20638b8e5c026930c3e6039a33ce45964ff2167f6ecedd419db06c1",
	} {
		id := sha.Sum([]byte(text))
		if hex.EncodeToString(id[:]) != want {
			t.Errorf("%q: %x", text, id)
		}
	}
	if sha.Sum(nil) != sha.Sum([]byte{}) || sha.End(sha.New()) != sha.Sum(nil) {
		t.Error("no bytes")
	}
	if (sha.End(api.Hash{}) == api.Id{}) {
		t.Error("a register of noughts may be")
	}
}

// TestSum: P1.2, at once, of each length around blocks, and around MaxHash.
func TestSum(t *testing.T) {
	lengths := []int{api.MaxHash - 64, api.MaxHash - 9, api.MaxHash - 8, api.MaxHash - 1, api.MaxHash}
	for n := range 400 {
		lengths = append(lengths, n)
	}
	for _, n := range lengths {
		b := some(n)
		if sha.Sum(b) != api.Id(sha256.Sum256(b)) {
			t.Errorf("%d bytes: %x", n, sha.Sum(b))
		}
	}
	for _, n := range []int{api.MaxHash + 1, api.MaxHash + 64, 2 * api.MaxHash} {
		if sha.Sum(make([]byte, n)) != (api.Id{}) {
			t.Errorf("%d bytes have a sum", n)
		}
	}
}

// TestParts: P1.3, in however many parts bytes come, and what may be stays so.
func TestParts(t *testing.T) {
	chance := rand.New(rand.NewSource(1))
	for range 300 {
		text := some(chance.Intn(700))
		h := sha.New()
		for at := 0; at < len(text); {
			n := min(chance.Intn(150), len(text)-at)
			h = sha.Add(h, text[at:at+n])
			at += n
			if !sha.May(h) || h.Len != at || sha.End(h) != sha.Sum(text[:at]) {
				t.Fatalf("behind %d of %d bytes: %+v", at, len(text), h)
			}
		}
		if !same(h, sha.Add(sha.New(), text)) || sha.End(h) != sha.Sum(text) {
			t.Errorf("%d bytes: %+v", len(text), h)
		}
	}
}

// TestShared: R3 and R5, what is handed in stays, and what is answered is the caller's own.
func TestShared(t *testing.T) {
	text := some(100)
	keep := bytes.Clone(text)
	h := sha.Add(sha.New(), text)
	was := sha.Add(sha.New(), keep)

	roomy := api.Hash{H: h.H, Rest: append(make([]byte, 0, 256), h.Rest...), Len: h.Len}
	x, y := sha.Add(roomy, []byte{1}), sha.Add(roomy, []byte{2})
	sha.End(roomy)
	if !bytes.Equal(roomy.Rest[:64], append(bytes.Clone(was.Rest), make([]byte, 28)...)) {
		t.Error("bytes behind Rest are changed")
	}
	if sha.End(x) != sha.Sum(append(bytes.Clone(keep), 1)) || sha.End(y) != sha.Sum(append(bytes.Clone(keep), 2)) {
		t.Error("two that go on from one state are mixed")
	}
	if !bytes.Equal(text, keep) || !same(h, was) {
		t.Error("what is handed in is changed")
	}
	clear(text)
	if !same(h, was) {
		t.Error("a state shares the bytes that were added")
	}
	z := sha.Add(h, nil)
	clear(h.Rest)
	if !same(z, was) {
		t.Error("a state shares the Rest of the one ahead")
	}
	for range 2 {
		if sha.End(was) != sha.Sum(keep) {
			t.Error("a sum hangs on what was asked before")
		}
	}
}
