package chain_test

import (
	"bytes"
	"crypto/sha256"
	"encoding/binary"
	"math"
	"math/rand"
	"slices"
	"testing"

	"pelican/api"
	"pelican/chain"
	"pelican/sha"
)

// Every test but TestKnown also runs with sums of few values (see weak_test.go): what is expected is told by sha's Sum, whatever that answers.

// may tells by the document's words whether an entry may be.
func may(e api.Entry) bool {
	upTo := func(n, most int) bool { return n >= 0 && n <= most }
	ticks := upTo(e.Tick, 1<<30) && upTo(e.Epoch, 1<<30)
	return ticks && upTo(e.Kind, 4) && upTo(e.User, 255) && upTo(e.Cmd, 255) && upTo(e.Arg, 65535) && upTo(int(e.Code), 12)
}

// spelt are an entry's 30 bytes, by the library.
func spelt(e api.Entry) []byte {
	big := binary.BigEndian
	b := big.AppendUint32([]byte{byte(e.Kind)}, uint32(e.Tick))
	b = append(big.AppendUint32(b, uint32(e.Epoch)), byte(e.User))
	b = big.AppendUint64(big.AppendUint64(b, e.Sess), e.Count)
	return append(big.AppendUint16(append(b, byte(e.Cmd)), uint16(e.Arg)), byte(e.Code))
}

// unspelt is the entry of 30 bytes, by the library.
func unspelt(b []byte) (api.Entry, bool) {
	big := binary.BigEndian
	e := api.Entry{
		Kind: int(b[0]), Tick: int(big.Uint32(b[1:])), Epoch: int(big.Uint32(b[5:])), User: int(b[9]),
		Sess: big.Uint64(b[10:]), Count: big.Uint64(b[18:]),
		Cmd: int(b[26]), Arg: int(big.Uint16(b[27:])), Code: api.Errno(b[29]),
	}
	return e, may(e)
}

// joined is the text of a last entry's bytes behind a head.
func joined(h api.Id, last []byte) []byte { return slices.Concat([]byte{1}, h[:], last) }

// texts are those of no entries, of the first one, and so on, up to all, by the chapter's words.
func texts(l []api.Entry) [][]byte {
	all := [][]byte{{0}}
	for i, e := range l {
		all = append(all, joined(sha.Sum(all[i]), spelt(e)))
	}
	return all
}

// recorded are the records of entries that may be, and their head, by the chapter's words.
func recorded(l []api.Entry) ([]byte, api.Id) {
	var b []byte
	all := texts(l)
	for i, e := range l {
		h := sha.Sum(all[i+1])
		b = slices.Concat(b, spelt(e), h[:])
	}
	return b, sha.Sum(all[len(l)])
}

// judged are the entries that are to be read of bytes, their head, and what is wrong, by the chapter's words.
func judged(b []byte) ([]api.Entry, api.Id, api.Errno) {
	var l []api.Entry
	h := sha.Sum([]byte{0})
	for ; len(b) >= 62 && len(l) < 264; b = b[62:] {
		e, is := unspelt(b[:30])
		next := sha.Sum(joined(h, b[:30]))
		switch {
		case !is:
			return l, h, 3
		case !bytes.Equal(next[:], b[30:62]):
			return l, h, 7
		}
		l, h = append(l, e), next
	}
	if len(b) > 0 {
		return l, h, 4
	}
	return l, h, 0
}

// drawn is an entry that may be, by chance, with edges among its numbers.
func drawn(chance *rand.Rand) api.Entry {
	upTo := func(most int) int {
		return []int{chance.Intn(most + 1), chance.Intn(most + 1), 0, 1, most}[chance.Intn(5)]
	}
	wide := func() uint64 { return []uint64{chance.Uint64(), 0, 1, 1 << 63, math.MaxUint64}[chance.Intn(5)] }
	return api.Entry{
		Kind: upTo(4), Tick: upTo(1 << 30), Epoch: upTo(1 << 30), User: upTo(255),
		Sess: wide(), Count: wide(),
		Cmd: upTo(255), Arg: upTo(65535), Code: api.Errno(upTo(12)),
	}
}

// some are entries that may be, by chance.
func some(chance *rand.Rand, count int) []api.Entry {
	l := make([]api.Entry, count)
	for i := range l {
		l[i] = drawn(chance)
	}
	return l
}

// wrong are entries that may not be, each because of one number.
func wrong() []api.Entry {
	l := []api.Entry{
		{Kind: 5}, {Tick: 1<<30 + 1}, {Epoch: 1<<30 + 1}, {User: 256}, {Cmd: 256}, {Arg: 65536}, {Code: 13},
		{Kind: 256}, {Tick: 1 << 32}, {Epoch: 1 << 32}, {Cmd: 1 << 32}, {Arg: 1 << 16}, {Code: 256},
	}
	for _, n := range []int{-1, math.MinInt, math.MaxInt} {
		l = append(l, api.Entry{Kind: n}, api.Entry{Tick: n}, api.Entry{Epoch: n}, api.Entry{User: n}, api.Entry{Cmd: n}, api.Entry{Arg: n}, api.Entry{Code: api.Errno(n)})
	}
	return l
}

// put holds one call of Put against the chapter's words; what is put is read, and nothing is wrong with it (P11.4).
func put(t *testing.T, l []api.Entry) {
	t.Helper()
	b, h, is := chain.Put(l)
	if len(l) > 264 || slices.ContainsFunc(l, func(e api.Entry) bool { return !may(e) }) {
		if len(b) != 0 || h != (api.Id{}) || is {
			t.Errorf("%d entries may not be: %v, %v, %v", len(l), b, h, is)
		}
		return
	}
	if want, head := recorded(l); !is || !bytes.Equal(b, want) || h != head || len(b) != 62*len(l) {
		t.Errorf("%d entries: %v, %v, %v, not %v, %v", len(l), b, h, is, want, head)
	}
	again, k, n := chain.Read(b)
	if !slices.Equal(again, l) || k != h || n != len(b) {
		t.Errorf("%+v are read as %+v, %v, %d", l, again, k, n)
	}
	if k, e := chain.Verify(b); k != h || e != api.OK {
		t.Errorf("%+v: %v, %v", l, k, e)
	}
}

// read holds one call of Read, and of Verify, against the chapter's words, and answers what is wrong.
func read(t *testing.T, b []byte) api.Errno {
	t.Helper()
	l, h, n := chain.Read(b)
	want, head, wrong := judged(b)
	if !slices.Equal(l, want) || h != head || n != 62*len(want) {
		t.Errorf("%d bytes: %+v, %v, %d, not %+v, %v", len(b), l, h, n, want, head)
	}
	if all, k, is := chain.Put(l); !is || k != h || len(all) != n || !bytes.HasPrefix(b, all) {
		t.Errorf("%d bytes: what is read is put as %v, %v, %v", len(b), all, k, is)
	}
	if wrong != api.OK {
		head = api.Id{}
	}
	if k, e := chain.Verify(b); k != head || e != wrong {
		t.Errorf("%d bytes: %v, %v, not %v, %v", len(b), k, e, head, wrong)
	}
	return wrong
}

// TestLimits: the tests' numbers are api's.
func TestLimits(t *testing.T) {
	if api.MaxRecs != 264 || api.EntryLen != 30 || api.RecLen != 62 || len(api.Id{}) != 32 {
		t.Error("limits")
	}
	if api.OK != 0 || api.ErrForm != 3 || api.ErrShort != 4 || api.ErrTag != 7 {
		t.Error("errors")
	}
}

// TestKnown: P11.1, heads by the library's sum.
func TestKnown(t *testing.T) {
	if weak() {
		t.Skip("sums are weak")
	}
	h := api.Id(sha256.Sum256([]byte{0}))
	if chain.Start() != h {
		t.Error(chain.Start())
	}
	var want []byte
	l := []api.Entry{{Epoch: 1}, {Kind: api.EnDo, Tick: 1 << 30, User: 255, Sess: 1 << 63, Count: 5, Cmd: 5}, {Kind: api.EnNo, Arg: 65535, Code: 12}}
	for _, e := range l {
		next := api.Id(sha256.Sum256(joined(h, spelt(e))))
		if k, is := chain.Link(h, e); k != next || !is {
			t.Errorf("%+v: %v, %v", e, k, is)
		}
		h = next
		want = slices.Concat(want, spelt(e), h[:])
	}
	if b, k, is := chain.Put(l); !bytes.Equal(b, want) || k != h || !is {
		t.Error(b, k, is)
	}
}

// TestLink: P11.1, entries by chance behind heads by chance, and entries that may not be.
func TestLink(t *testing.T) {
	if chain.Start() != sha.Sum([]byte{0}) {
		t.Error(chain.Start())
	}
	chance := rand.New(rand.NewSource(1))
	heads := []api.Id{{}, chain.Start()}
	for range 2000 {
		var h api.Id
		chance.Read(h[:])
		heads = append(heads, h)
	}
	for _, h := range heads {
		e := drawn(chance)
		if k, is := chain.Link(h, e); k != sha.Sum(joined(h, spelt(e))) || !is {
			t.Errorf("%v, %+v: %v, %v", h, e, k, is)
		}
		for _, e := range wrong() {
			if k, is := chain.Link(h, e); k != (api.Id{}) || is {
				t.Errorf("%+v may not be: %v, %v", e, k, is)
			}
		}
	}
}

// TestPut: P11.1 and P11.4, lists of all lengths up to more than there may be.
func TestPut(t *testing.T) {
	chance := rand.New(rand.NewSource(2))
	put(t, nil)
	put(t, []api.Entry{})
	for count := range 270 {
		l := some(chance, count)
		put(t, l)
		if h := chain.Start(); count <= 264 {
			for _, e := range l {
				h, _ = chain.Link(h, e)
			}
			if _, k, _ := chain.Put(l); k != h {
				t.Errorf("%d entries are not linked: %v, %v", count, k, h)
			}
		}
	}
	put(t, make([]api.Entry, 264))
	for _, count := range []int{265, 264 + 256, 528, 1 << 16, 1<<16 + 1, 1 << 20} {
		put(t, make([]api.Entry, count))
	}
}

// TestPutWrong: P11.1, one entry that may not be at each place, also beside too many.
func TestPutWrong(t *testing.T) {
	chance := rand.New(rand.NewSource(3))
	for _, count := range []int{1, 2, 3, 264, 265} {
		l := some(chance, count)
		for _, at := range []int{0, count / 2, count - 1} {
			was := l[at]
			for _, e := range wrong() {
				l[at] = e
				put(t, l)
			}
			l[at] = was
		}
		put(t, l)
	}
}

// TestCutOff: P11.2 and P11.4, records cut off anywhere, at both ends: of those that are cut off behind the whole ones are read.
func TestCutOff(t *testing.T) {
	chance := rand.New(rand.NewSource(4))
	l := some(chance, 5)
	b, _ := recorded(l)
	for k := range len(b) + 1 {
		e := read(t, b[:k])
		read(t, slices.Clip(slices.Clone(b[:k])))
		if again, _, n := chain.Read(b[:k]); !slices.Equal(again, l[:k/62]) || n != k/62*62 || (e == api.OK) != (k%62 == 0) {
			t.Errorf("of %d bytes %d are read: %v", k, n, e)
		}
		read(t, b[k:])
	}
}

// TestChanged: P11.2, each bit of records changed, and each byte made another one.
func TestChanged(t *testing.T) {
	chance := rand.New(rand.NewSource(5))
	for range 4 {
		b, _ := recorded(some(chance, 3))
		b = append(b, 0, 0, 0)
		for at := range b {
			was := b[at]
			for bit := range 8 {
				b[at] = was ^ 1<<bit
				read(t, b)
				read(t, b[:186])
			}
			for range 3 {
				b[at] = byte(chance.Intn(256))
				read(t, b[:186])
			}
			b[at] = was
		}
	}
}

// TestMoved: P11.2, records that are whole, but not where they stood: left out, twice, in another order, of other lists, or behind noughts.
func TestMoved(t *testing.T) {
	chance := rand.New(rand.NewSource(6))
	for range 200 {
		b, _ := recorded(some(chance, 4))
		other, _ := recorded(some(chance, 4))
		of := func(b []byte, at int) []byte { return b[62*at : 62*at+62] }
		for i := range 4 {
			read(t, slices.Concat(b[:62*i], b[62*i+62:]))
			read(t, slices.Concat(b[:62*i], of(b, i), b[62*i:]))
			read(t, slices.Concat(b[:62*i], make([]byte, 62), b[62*i:]))
			read(t, slices.Concat(b[:62*i], []byte{0}, b[62*i:]))
			for j := range 4 {
				x := slices.Clone(b)
				copy(of(x, i), of(b, j))
				copy(of(x, j), of(b, i))
				read(t, x)
				copy(of(x, i), of(other, j))
				read(t, x)
			}
		}
	}
}

// TestStartedElsewhere: P11.2, records that are linked well, but behind another head than that of no entries.
func TestStartedElsewhere(t *testing.T) {
	chance := rand.New(rand.NewSource(7))
	for _, first := range [][]byte{make([]byte, 32), spelt(api.Entry{}), {}, {1}} {
		h := sha.Sum(first)
		if len(first) == 32 {
			h = api.Id(first)
		}
		var b []byte
		for _, e := range some(chance, 3) {
			h, _ = chain.Link(h, e)
			b = slices.Concat(b, spelt(e), h[:])
		}
		if e := read(t, b); !weak() && e != api.ErrTag {
			t.Errorf("behind %v: %v", first, e)
		}
	}
}

// TestOrder: P11.2, of a record that is wrong twice the form is told, of two that are wrong the first one, and bytes that are left only in the end.
func TestOrder(t *testing.T) {
	chance := rand.New(rand.NewSource(8))
	for count := range 4 {
		l := some(chance, count)
		b, h := recorded(l)
		form := spelt(drawn(chance))
		form[29] = 13
		sum := sha.Sum(joined(h, form))
		tag := spelt(drawn(chance))
		other := sha.Sum(joined(h, tag))
		other[31]++
		noForm, noTag := slices.Concat(form, sum[:]), slices.Concat(tag, other[:])
		formAndTag := slices.Concat(form, other[:])
		for i, x := range []struct {
			b []byte
			e api.Errno
		}{
			{noForm, 3}, {noTag, 7}, {formAndTag, 3},
			{slices.Concat(noForm, noTag), 3}, {slices.Concat(noTag, noForm), 7},
			{slices.Concat(noForm, tag), 3}, {slices.Concat(noTag, form), 7},
			{noForm[:61], 4}, {noTag[:61], 4}, {form, 4}, {form[:1], 4}, {tag, 4}, {nil, 0},
		} {
			if e := read(t, slices.Concat(b, x.b)); e != x.e {
				t.Errorf("%d entries, %d: %v, not %v", count, i, e, x.e)
			}
			if again, _, n := chain.Read(slices.Concat(b, x.b)); !slices.Equal(again, l) || n != len(b) {
				t.Errorf("%d entries, %d: %d bytes are read", count, i, n)
			}
		}
	}
}

// TestMost: P11.2, as many records as there may be, and what stands behind them, whatever it is: no record is looked at there.
func TestMost(t *testing.T) {
	chance := rand.New(rand.NewSource(9))
	l := some(chance, 530)
	b, _ := recorded(l)
	for _, count := range []int{263, 264} {
		for _, n := range []int{0, 1, 30, 61} {
			read(t, b[:62*count+n])
		}
	}
	if e := read(t, b[:62*264]); e != api.OK {
		t.Error(e)
	}
	bad := bytes.Repeat([]byte{255}, 62)
	for _, behind := range [][]byte{{0}, b[:62], b[62*264 : 62*265], b[62*264:], bad, bad[:61], make([]byte, 62)} {
		if e := read(t, slices.Concat(b[:62*264], behind)); e != api.ErrShort {
			t.Errorf("%d bytes behind: %v", len(behind), e)
		}
		if all, _, n := chain.Read(slices.Concat(b[:62*264], behind)); !slices.Equal(all, l[:264]) || n != 62*264 {
			t.Errorf("%d bytes behind: %d are read", len(behind), n)
		}
	}
	if e := read(t, slices.Concat(b[:62*263], bad)); e != api.ErrForm {
		t.Error("the last one", e)
	}
	if e := read(t, slices.Concat(b[:62*263], bad, b)); e != api.ErrForm {
		t.Error("the last one, and more", e)
	}
}

// TestBytes: P11.2, bytes by chance, noughts, and many of them.
func TestBytes(t *testing.T) {
	chance := rand.New(rand.NewSource(10))
	read(t, nil)
	read(t, []byte{})
	for n := range 400 {
		b := make([]byte, n)
		read(t, b)
		chance.Read(b)
		read(t, b)
		if n > 0 {
			b[0] = byte(chance.Intn(5))
		}
		read(t, b)
	}
	read(t, make([]byte, 1<<20))
	read(t, bytes.Repeat([]byte{255}, 1<<20))
}

// TestOwn: R3, what is handed in stays, also what lies behind it in memory; what is answered is the caller's own.
func TestOwn(t *testing.T) {
	chance := rand.New(rand.NewSource(11))
	l := some(chance, 6)
	was := slices.Clone(l)
	want, head := recorded(l[:4])
	b, _, _ := chain.Put(l[:4])
	again, _, _ := chain.Put(l[:4])
	clear(append(b, 1)[:62])
	clear(b[:cap(b)])
	if third, h, _ := chain.Put(l[:4]); !bytes.Equal(again, want) || !bytes.Equal(third, want) || h != head {
		t.Error("two answers share their bytes")
	}
	memory := bytes.Repeat(want, 2)
	some, _, _ := chain.Read(memory[:len(want)])
	one, _, _ := chain.Read(memory[:len(want)])
	chain.Verify(memory[:len(want)])
	if !bytes.Equal(memory, bytes.Repeat(want, 2)) {
		t.Error("the bytes that are handed in are changed")
	}
	clear(memory)
	clear(some[:cap(some)])
	if !slices.Equal(one, was[:4]) || !slices.Equal(l, was) {
		t.Error("entries are changed")
	}
	clear(l)
	if !slices.Equal(one, was[:4]) || !bytes.Equal(again, want) {
		t.Error("what is answered is changed")
	}
}
