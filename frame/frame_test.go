package frame_test

import (
	"bytes"
	"encoding/binary"
	"math"
	"math/rand"
	"slices"
	"testing"

	"pelican/api"
	"pelican/frame"
)

// some answers n bytes by chance.
func some(chance *rand.Rand, n int) []byte {
	b := make([]byte, n)
	chance.Read(b)
	return b
}

// lens are how many bytes the frames of each kind have, tags are those kinds that have one.
var (
	lens = [api.FrKinds]int{12, 15, 43, 43, 54, 54, 4}
	tags = [api.FrKinds]bool{2: true, 3: true, 4: true, 5: true}
)

// only is the frame that has just the fields of its kind of another one.
func only(f api.Frame) api.Frame {
	switch f.Kind {
	case 0:
		return api.Frame{User: f.User, Cn: f.Cn}
	case 1:
		return api.Frame{Kind: 1, Sess: f.Sess, Epoch: f.Epoch}
	case 2, 3:
		return api.Frame{Kind: f.Kind, Sess: f.Sess, Tag: f.Tag}
	case 4, 5:
		return api.Frame{Kind: f.Kind, Sess: f.Sess, Count: f.Count, Cmd: f.Cmd, Arg: f.Arg, Tag: f.Tag}
	default:
		return api.Frame{Kind: f.Kind, Cmd: f.Cmd}
	}
}

// plain tells by the chapter's words whether a frame is.
func plain(f api.Frame) bool {
	return f.Kind >= 0 && f.Kind < 7 && f.User >= 0 && f.User <= 255 && f.Epoch >= 0 && f.Epoch <= 1<<30 &&
		f.Cmd >= 0 && f.Cmd <= 255 && f.Arg >= 0 && f.Arg <= 65535 && f == only(f)
}

// peer are a plain frame's bytes by the library.
func peer(f api.Frame) []byte {
	big := binary.BigEndian
	b := []byte{0, byte(lens[f.Kind] - 2), byte(f.Kind)}
	switch f.Kind {
	case 0:
		return big.AppendUint64(append(b, byte(f.User)), f.Cn)
	case 1:
		return big.AppendUint32(big.AppendUint64(b, f.Sess), uint32(f.Epoch))
	case 2, 3:
		return append(big.AppendUint64(b, f.Sess), f.Tag[:]...)
	case 4, 5:
		b = append(big.AppendUint64(big.AppendUint64(b, f.Sess), f.Count), byte(f.Cmd))
		return append(big.AppendUint16(b, uint16(f.Arg)), f.Tag[:]...)
	default:
		return append(b, byte(f.Cmd))
	}
}

// peerRead is what is to be read.
func peerRead(b []byte) (api.Frame, api.Errno) {
	switch big := binary.BigEndian; {
	case len(b) > 64:
		return api.Frame{}, api.ErrSize
	case len(b) < 2 || len(b)-2 < int(big.Uint16(b)):
		return api.Frame{}, api.ErrShort
	case len(b) < 3 || len(b)-2 != int(big.Uint16(b)) || b[2] > 6 || len(b) != lens[b[2]]:
		return api.Frame{}, api.ErrForm
	case b[2] == 0:
		return api.Frame{User: int(b[3]), Cn: big.Uint64(b[4:])}, api.OK
	case b[2] == 1 && big.Uint32(b[11:]) > 1<<30:
		return api.Frame{}, api.ErrForm
	case b[2] == 1:
		return api.Frame{Kind: 1, Sess: big.Uint64(b[3:]), Epoch: int(big.Uint32(b[11:]))}, api.OK
	case b[2] < 4:
		return api.Frame{Kind: int(b[2]), Sess: big.Uint64(b[3:]), Tag: api.Id(b[11:])}, api.OK
	case b[2] < 6:
		return api.Frame{Kind: int(b[2]), Sess: big.Uint64(b[3:]), Count: big.Uint64(b[11:]), Cmd: int(b[19]), Arg: int(big.Uint16(b[20:])), Tag: api.Id(b[22:])}, api.OK
	default:
		return api.Frame{Kind: 6, Cmd: int(b[3])}, api.OK
	}
}

// drawn is a plain frame of a kind by chance, with edges among its numbers.
func drawn(chance *rand.Rand, kind int) api.Frame {
	wide := func() uint64 {
		return []uint64{chance.Uint64(), 0, 1, 255, 256, 1 << 63, math.MaxUint64, chance.Uint64() >> chance.Intn(64)}[chance.Intn(8)]
	}
	upTo := func(most int) int {
		return []int{chance.Intn(most + 1), chance.Intn(most + 1), 0, 1, most - 1, most}[chance.Intn(6)]
	}
	f := api.Frame{Kind: kind, User: upTo(255), Sess: wide(), Cn: wide(), Epoch: upTo(1 << 30), Count: wide(), Cmd: upTo(255), Arg: upTo(65535)}
	if chance.Intn(8) > 0 {
		f.Tag = api.Id(some(chance, 32))
	}
	return only(f)
}

// wides are numbers of 64 bits, at edges.
func wides() []uint64 {
	return []uint64{0, 1, 127, 128, 255, 256, 65535, 65536, 0x0102030405060708, 1<<30 + 1, 1 << 31, 1<<63 - 1, 1 << 63, math.MaxUint64}
}

// put holds one call of Put, and of Body, against the chapter's words.
func put(t *testing.T, f api.Frame) {
	t.Helper()
	b, is := frame.Put(f)
	body := frame.Body(f)
	if !plain(f) {
		if is || len(b) != 0 || len(body) != 0 {
			t.Errorf("%+v is not plain: %v, %v, %v", f, b, is, body)
		}
		return
	}
	if !is || !bytes.Equal(b, peer(f)) || len(b) != lens[f.Kind] {
		t.Errorf("%+v: %v, %v", f, b, is)
	}
	var want []byte
	if tags[f.Kind] {
		want = b[:len(b)-32]
	}
	if !bytes.Equal(body, want) {
		t.Errorf("the body of %+v: %v", f, body)
	}
}

// read holds one call of Read against the chapter's words.
func read(t *testing.T, b []byte) {
	t.Helper()
	f, e := frame.Read(b)
	if want, no := peerRead(b); f != want || e != no {
		t.Errorf("%v: %+v, %d, not %+v, %d", b, f, e, want, no)
	}
}

// TestExamples: P4.1, those of the chapter, and one of each kind byte by byte.
func TestExamples(t *testing.T) {
	tag := api.Id{0: 201, 1: 202, 31: 232}
	tail := append(append([]byte{201, 202}, make([]byte, 29)...), 232)
	for _, x := range []struct {
		f    api.Frame
		want []byte
		tail []byte
	}{
		{api.Frame{Kind: api.FrHello, User: 3, Cn: 9}, []byte{0, 10, 0, 3, 0, 0, 0, 0, 0, 0, 0, 9}, nil},
		{api.Frame{Kind: api.FrAsk, Sess: 0x0102030405060708, Epoch: 0x090a0b0c}, []byte{0, 13, 1, 1, 2, 3, 4, 5, 6, 7, 8, 9, 10, 11, 12}, nil},
		{api.Frame{Kind: api.FrProof, Sess: 0xf102030405060708, Tag: tag}, []byte{0, 41, 2, 241, 2, 3, 4, 5, 6, 7, 8}, tail},
		{api.Frame{Kind: api.FrOpen, Sess: 8, Tag: tag}, []byte{0, 41, 3, 0, 0, 0, 0, 0, 0, 0, 8}, tail},
		{api.Frame{Kind: api.FrCmd, Sess: 8, Count: 0x1112131415161718, Cmd: 200, Arg: 300, Tag: tag}, []byte{0, 52, 4, 0, 0, 0, 0, 0, 0, 0, 8, 17, 18, 19, 20, 21, 22, 23, 24, 200, 1, 44}, tail},
		{api.Frame{Kind: api.FrReply, Sess: 8, Count: 2, Cmd: 12, Arg: 65535}, []byte{0, 52, 5, 0, 0, 0, 0, 0, 0, 0, 8, 0, 0, 0, 0, 0, 0, 0, 2, 12, 255, 255}, make([]byte, 32)},
		{api.Frame{Kind: api.FrNo, Cmd: 5}, []byte{0, 2, 6, 5}, nil},
	} {
		whole := slices.Concat(x.want, x.tail)
		if b, is := frame.Put(x.f); !is || !bytes.Equal(b, whole) {
			t.Errorf("%+v: %v, %v", x.f, b, is)
		}
		body := x.want
		if x.tail == nil {
			body = nil
		}
		if b := frame.Body(x.f); !bytes.Equal(b, body) {
			t.Errorf("the body of %+v: %v", x.f, b)
		}
		if f, e := frame.Read(whole); f != x.f || e != api.OK {
			t.Errorf("%v: %+v, %d", whole, f, e)
		}
	}
}

// TestPut: P4.1, plain frames of all kinds, with each number at its edges.
func TestPut(t *testing.T) {
	chance := rand.New(rand.NewSource(1))
	for kind := range api.FrKinds {
		put(t, api.Frame{Kind: kind})
		for range 2000 {
			f := drawn(chance, kind)
			if !plain(f) {
				t.Fatalf("%+v is drawn", f)
			}
			put(t, f)
		}
	}
	for cmd := range 256 {
		put(t, api.Frame{Kind: api.FrNo, Cmd: cmd})
		put(t, api.Frame{Kind: api.FrHello, User: cmd})
		put(t, api.Frame{Kind: api.FrCmd, Cmd: cmd})
	}
}

// TestPutWrong: P4.1, one number that is out of bounds, or none of the fields, of each kind.
func TestPutWrong(t *testing.T) {
	chance := rand.New(rand.NewSource(2))
	narrow := []int{0, 1, -1, 2, 7, 254, 255, 256, 257, 65534, 65535, 65536, 65537, 1<<30 - 1, 1 << 30, 1<<30 + 1, 1 << 31, 1<<32 - 1, 1 << 32, 1<<32 + 1, 1 << 40, math.MaxInt, math.MinInt, -255, -256, -1 << 30}
	for kind := range api.FrKinds {
		for _, f := range []api.Frame{{Kind: kind}, drawn(chance, kind)} {
			for _, n := range narrow {
				one := []api.Frame{f, f, f, f}
				one[0].User, one[1].Epoch, one[2].Cmd, one[3].Arg = n, n, n, n
				for _, g := range one {
					put(t, g)
				}
			}
			for _, n := range wides() {
				one := []api.Frame{f, f, f}
				one[0].Sess, one[1].Cn, one[2].Count = n, n, n
				for _, g := range one {
					put(t, g)
				}
			}
			for at := range 32 {
				g := f
				g.Tag[at] ^= 1
				put(t, g)
			}
		}
	}
	for _, kind := range []int{-1, -2, 7, 8, 9, 255, 256, 257, 262, 1 << 16, 1 << 32, 1<<32 + 6, math.MaxInt, math.MinInt} {
		put(t, api.Frame{Kind: kind})
		put(t, api.Frame{Kind: kind, Cmd: 5})
		put(t, api.Frame{Kind: kind, Sess: 5, Tag: api.Id{1}})
	}
}

// TestRead: P4.2, plain frames of all kinds, and each of them with one byte of it changed.
func TestRead(t *testing.T) {
	chance := rand.New(rand.NewSource(3))
	for kind := range api.FrKinds {
		for range 2000 {
			read(t, peer(drawn(chance, kind)))
		}
		b := peer(drawn(chance, kind))
		for at := range b {
			for n := range 256 {
				c := slices.Clone(b)
				c[at] = byte(n)
				read(t, c)
			}
		}
	}
}

// TestReadEnds: P4.2, too short, too long, and told to be of another length, in all ways.
func TestReadEnds(t *testing.T) {
	chance := rand.New(rand.NewSource(4))
	for kind := range api.FrKinds {
		b := peer(drawn(chance, kind))
		for n := range b {
			read(t, b[:n]) // those that are cut off lie behind in memory
		}
		for more := range 80 {
			long := append(slices.Clone(b), some(chance, more)...)
			read(t, long)
			binary.BigEndian.PutUint16(long, uint16(len(long)-2))
			read(t, long)
			long[0] = 1
			read(t, long)
		}
	}
	for n := range 130 {
		read(t, make([]byte, n))
		read(t, bytes.Repeat([]byte{255}, n))
		for range 20 {
			b := some(chance, n)
			read(t, b)
			for kind := 0; kind < 9 && n > 2; kind++ {
				b[2] = byte(kind)
				binary.BigEndian.PutUint16(b, uint16(n-2))
				read(t, b)
			}
		}
	}
	read(t, nil)
	read(t, make([]byte, 1<<17))
}

// TestReadOrder: P4.2 and R2, the error is the one that is named first.
func TestReadOrder(t *testing.T) {
	for _, x := range []struct {
		n    int
		told []byte
		want api.Errno
	}{
		{65, []byte{255, 255, 9}, api.ErrSize}, // too many bytes, and too few behind, and no kind
		{65, []byte{0, 63, 9}, api.ErrSize},
		{64, []byte{0, 63, 9}, api.ErrShort}, // too few behind, and no kind
		{64, []byte{0, 62, 9}, api.ErrForm},
		{64, []byte{1, 0, 6}, api.ErrShort},
		{3, []byte{0, 2, 9}, api.ErrShort},
		{3, []byte{0, 1, 9}, api.ErrForm},
		{2, []byte{0, 1}, api.ErrShort},
		{2, []byte{0, 0}, api.ErrForm},
		{1, []byte{0}, api.ErrShort},
		{0, nil, api.ErrShort},
	} {
		b := make([]byte, x.n)
		copy(b, x.told)
		if f, e := frame.Read(b); e != x.want || f != (api.Frame{}) {
			t.Errorf("%d bytes, %v: %+v, %d", x.n, x.told, f, e)
		}
	}
}

// TestReadEpoch: P4.2, bytes that would tell an epoch that is too late are no frame's.
func TestReadEpoch(t *testing.T) {
	for _, n := range []uint32{0, 1, 1<<30 - 1, 1 << 30, 1<<30 + 1, 1 << 31, math.MaxUint32} {
		b := binary.BigEndian.AppendUint32([]byte{0, 13, 1, 0, 0, 0, 0, 0, 0, 0, 7}, n)
		want, no := api.Frame{Kind: api.FrAsk, Sess: 7, Epoch: int(n)}, api.OK
		if n > 1<<30 {
			want, no = api.Frame{}, api.ErrForm
		}
		if f, e := frame.Read(b); f != want || e != no {
			t.Errorf("epoch %d: %+v, %d", n, f, e)
		}
	}
}

// split holds one call of Split against parts that are known.
func split(t *testing.T, b []byte, want [][]byte, rest []byte) {
	t.Helper()
	l, left := frame.Split(b)
	if !slices.EqualFunc(l, want, bytes.Equal) || !bytes.Equal(left, rest) {
		t.Errorf("%d bytes: %d parts, %d are left; not %d, and %d", len(b), len(l), len(left), len(want), len(rest))
	}
}

// told are n bytes behind the two that tell n.
func told(chance *rand.Rand, n int) []byte {
	return append([]byte{byte(n >> 8), byte(n)}, some(chance, n)...)
}

// TestSplit: P4.3, frames, and bytes that are none but are told to be as many, and what is left of one.
func TestSplit(t *testing.T) {
	chance := rand.New(rand.NewSource(5))
	for range 2000 {
		var want [][]byte
		for range chance.Intn(6) {
			one := peer(drawn(chance, chance.Intn(api.FrKinds)))
			if chance.Intn(3) == 0 {
				one = told(chance, []int{0, 1, 2, 62, 63, 64, 254, 255, 256, 257, 700}[chance.Intn(11)])
			}
			want = append(want, one)
		}
		last := told(chance, 1+chance.Intn(300))
		for _, rest := range [][]byte{nil, last[:1], last[:2], last[:len(last)-1], last[:chance.Intn(len(last))]} {
			split(t, append(bytes.Join(want, nil), rest...), want, rest)
		}
	}
}

// TestSplitEdges: P4.3, none, one byte, noughts, and as many as two bytes can tell.
func TestSplitEdges(t *testing.T) {
	split(t, nil, nil, nil)
	split(t, []byte{}, nil, nil)
	for n := range 256 {
		split(t, []byte{byte(n)}, nil, []byte{byte(n)})
	}
	split(t, []byte{0, 0}, [][]byte{{0, 0}}, nil)
	split(t, []byte{0, 0, 0}, [][]byte{{0, 0}}, []byte{0})
	split(t, make([]byte, 7), [][]byte{{0, 0}, {0, 0}, {0, 0}}, []byte{0})
	split(t, []byte{0, 1}, nil, []byte{0, 1})
	split(t, []byte{0, 1, 9}, [][]byte{{0, 1, 9}}, nil)
	split(t, []byte{0, 3, 9, 0}, nil, []byte{0, 3, 9, 0})
	// One that is not whole holds up those behind it.
	split(t, []byte{1, 0, 0, 2, 6, 5}, nil, []byte{1, 0, 0, 2, 6, 5})
	most := told(rand.New(rand.NewSource(6)), 65535)
	split(t, most, [][]byte{most}, nil)
	split(t, most[:65536], nil, most[:65536]) // the last one lies behind in memory
	split(t, slices.Concat(most, most, most[:9]), [][]byte{most, most}, most[:9])
}

// TestBack: P4.4, what is put is read, what is read is put as the same bytes.
func TestBack(t *testing.T) {
	chance := rand.New(rand.NewSource(7))
	for range 20000 {
		f := drawn(chance, chance.Intn(api.FrKinds))
		b, _ := frame.Put(f)
		if got, e := frame.Read(b); got != f || e != api.OK {
			t.Errorf("%+v: %+v, %d", f, got, e)
		}
		b[chance.Intn(len(b))] = byte(chance.Int())
		if got, e := frame.Read(b); e == api.OK {
			if again, is := frame.Put(got); !is || !bytes.Equal(again, b) {
				t.Errorf("%v: %+v, %v", b, got, again)
			}
		}
	}
}

// TestBehind: P4.4, frames that come one behind the other are split again.
func TestBehind(t *testing.T) {
	chance := rand.New(rand.NewSource(8))
	for count := range 100 {
		var all []byte
		var fs []api.Frame
		for range count {
			f := drawn(chance, chance.Intn(api.FrKinds))
			b, _ := frame.Put(f)
			all, fs = append(all, b...), append(fs, f)
		}
		l, rest := frame.Split(all)
		if len(l) != count || len(rest) != 0 {
			t.Fatalf("%d frames: %d, %v", count, len(l), rest)
		}
		for i, b := range l {
			if f, e := frame.Read(b); f != fs[i] || e != api.OK {
				t.Errorf("%d of %d: %+v, %d", i, count, f, e)
			}
		}
	}
}

// TestBodies: P4.4, two frames that have one body, and one tag, are the same; and no body hangs on the tag.
func TestBodies(t *testing.T) {
	type pair struct {
		body string
		tag  api.Id
	}
	met := map[pair]api.Frame{}
	meet := func(f api.Frame) {
		t.Helper()
		body := frame.Body(f)
		if len(body) == 0 {
			t.Errorf("%+v has no body", f)
		}
		p := pair{string(body), f.Tag}
		if g, is := met[p]; is && g != f {
			t.Errorf("one body: %+v, %+v", f, g)
		}
		met[p] = f
		other := f
		other.Tag[7]++
		if !bytes.Equal(frame.Body(other), body) {
			t.Errorf("the body of %+v hangs on its tag", f)
		}
	}
	for _, kind := range []int{api.FrProof, api.FrOpen, api.FrCmd, api.FrReply} {
		for _, n := range wides() {
			meet(api.Frame{Kind: kind, Sess: n})
			if kind == api.FrCmd || kind == api.FrReply {
				meet(api.Frame{Kind: kind, Count: n})
				meet(api.Frame{Kind: kind, Cmd: int(n % 256)})
				meet(api.Frame{Kind: kind, Arg: int(n % 65536)})
			}
		}
	}
	chance := rand.New(rand.NewSource(9))
	for range 5000 {
		meet(drawn(chance, 2+chance.Intn(4)))
	}
}

// TestShared: R3 and R5, what is handed in stays, and what is answered is the caller's own.
func TestShared(t *testing.T) {
	chance := rand.New(rand.NewSource(10))
	one, two := peer(drawn(chance, api.FrCmd)), peer(drawn(chance, api.FrHello))
	roomy := append(make([]byte, 0, 200), slices.Concat(one, two, one[:20])...)
	was := slices.Clone(roomy[:200])
	l, rest := frame.Split(roomy)
	frame.Read(roomy[:len(one)])
	for i := range l {
		l[i] = append(l[i], 1, 2, 3)
	}
	rest = append(rest, 1, 2, 3)
	if !bytes.Equal(roomy[:200], was) {
		t.Error("what is handed in is changed")
	}
	clear(roomy[:200])
	mine := func() bool {
		return bytes.Equal(l[0][:54], one) && bytes.Equal(l[1][:12], two) && bytes.Equal(rest[:20], one[:20])
	}
	if !mine() {
		t.Error("an answer shares what was handed in, or another part of it")
	}
	f, _ := frame.Read(one)
	b, _ := frame.Put(f)
	body := frame.Body(f)
	clear(append(body, make([]byte, 32)...))
	if !bytes.Equal(b, one) {
		t.Error("a body shares what was put")
	}
	clear(b)
	clear(body)
	if again, _ := frame.Put(f); !bytes.Equal(again, one) || !bytes.Equal(frame.Body(f), one[:22]) {
		t.Error("two answers share their bytes")
	}
}
