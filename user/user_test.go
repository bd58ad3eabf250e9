package user_test

import (
	"bytes"
	"crypto/hmac"
	"crypto/sha256"
	"encoding/binary"
	"encoding/hex"
	"math"
	"math/rand"
	"slices"
	"testing"

	"pelican/api"
	"pelican/user"
)

// key answers n bytes by chance.
func key(chance *rand.Rand, n int) []byte {
	b := make([]byte, n)
	chance.Read(b)
	return b
}

// drawn are as many users as told, which may be (if they are no more than 8), with gaps between their numbers.
func drawn(chance *rand.Rand, count int) []api.User {
	numbers := chance.Perm(255)[:count]
	slices.Sort(numbers)
	var l []api.User
	for _, n := range numbers {
		l = append(l, api.User{No: n + 1, Role: chance.Intn(4), Key: key(chance, 16+chance.Intn(49))})
	}
	return l
}

// copied are users that share nothing, made without the package.
func copied(l []api.User) []api.User {
	own := slices.Clone(l)
	for i := range own {
		own[i].Key = bytes.Clone(own[i].Key)
	}
	return own
}

// equal tells whether all is the same, told without the package.
func equal(a, b []api.User) bool {
	if len(a) != len(b) {
		return false
	}
	for i, x := range a {
		if x.No != b[i].No || x.Role != b[i].Role || !bytes.Equal(x.Key, b[i].Key) {
			return false
		}
	}
	return true
}

// may tells by the chapter's words whether users may be.
func may(l []api.User) bool {
	is := len(l) <= 8
	for i, u := range l {
		is = is && u.No >= 1 && u.No <= 255
		is = is && u.Role >= 0 && u.Role <= 3
		is = is && len(u.Key) >= 16 && len(u.Key) <= 64
		is = is && (i == 0 || l[i-1].No < u.No)
	}
	return is
}

// find is where the first one of that number stands, gone through one by one.
func find(l []api.User, no int) int {
	if !may(l) {
		return -1
	}
	return slices.IndexFunc(l, func(u api.User) bool { return u.No == no })
}

// edges are numbers at the edges of all kinds of integers, and such as a shorter integer would take for a small one.
func edges() []int {
	var l []int
	for _, bits := range []int{8, 15, 16, 31, 32, 62} {
		for low := -1; low <= 8; low++ {
			l = append(l, 1<<bits+low, -1<<bits+low)
		}
	}
	for near := range 9 {
		l = append(l, math.MinInt+near, math.MaxInt-near)
	}
	return l
}

// around are all numbers around those of users and roles, and the edges.
func around() []int {
	l := edges()
	for n := -300; n <= 600; n++ {
		l = append(l, n)
	}
	return l
}

// held holds May, Find and Role against the chapter's words.
func held(t *testing.T, l []api.User, numbers []int) {
	t.Helper()
	if user.May(l) != may(l) {
		t.Errorf("%v: %v", l, user.May(l))
	}
	for _, no := range numbers {
		at := find(l, no)
		if got := user.Find(l, no); got != at {
			t.Errorf("user %d of %v stands at %d", no, l, got)
		}
		want := -1
		if at >= 0 {
			want = l[at].Role
		}
		if got := user.Role(l, no); got != want {
			t.Errorf("user %d of %v has the role %d", no, l, got)
		}
	}
}

// spoilt are lists of users, each with one part that may not be, at that place.
func spoilt(l []api.User, at int) [][]api.User {
	var all [][]api.User
	with := func(change func(u *api.User)) {
		x := copied(l)
		change(&x[at])
		all = append(all, x)
	}
	for _, n := range append(edges(), -300, -255, -2, -1, 0, 256, 257, 300) {
		if n < 1 || n > 255 {
			with(func(u *api.User) { u.No = n })
		}
		if n < 0 || n > 3 {
			with(func(u *api.User) { u.Role = n })
		}
	}
	for r := 4; r < 10; r++ {
		with(func(u *api.User) { u.Role = r })
	}
	for n := range 300 {
		if n < 16 || n > 64 {
			with(func(u *api.User) { u.Key = make([]byte, n) })
		}
	}
	for _, n := range []int{1<<16 + 16, 1<<16 + 64, 1 << 20} {
		with(func(u *api.User) { u.Key = make([]byte, n) })
	}
	with(func(u *api.User) { u.Key = nil })
	if at > 0 {
		for n := -1; n <= l[at-1].No; n++ {
			with(func(u *api.User) { u.No = n })
		}
	}
	if at < len(l)-1 {
		for n := l[at+1].No; n < 258; n++ {
			with(func(u *api.User) { u.No = n })
		}
	}
	return all
}

// TestLimits: the tests' numbers are api's.
func TestLimits(t *testing.T) {
	if api.MaxUsers != 8 || api.MaxUser != 255 || api.MinKey != 16 || api.MaxKey != 64 || api.MaxEpoch != 1<<30 || api.Roles != 4 {
		t.Error("limits")
	}
}

// TestExample: P8.1, that of the chapter.
func TestExample(t *testing.T) {
	l := []api.User{{No: 3, Key: make([]byte, 16)}, {No: 7, Role: api.Emergency, Key: make([]byte, 64)}}
	if user.Find(l, 7) != 1 || user.Find(l, 5) != -1 || user.Role(l, 7) != 3 || user.Role(l, 3) != 0 || user.Role(l, 5) != -1 {
		t.Error(user.Find(l, 7), user.Find(l, 5), user.Role(l, 7), user.Role(l, 3), user.Role(l, 5))
	}
}

// TestMay: P8.1, from no users to more than 8, with numbers by chance, the lowest ones, and the highest ones.
func TestMay(t *testing.T) {
	chance := rand.New(rand.NewSource(1))
	if !user.May(nil) || !user.May([]api.User{}) {
		t.Error("none")
	}
	for count := range 256 {
		low, high := drawn(chance, count), drawn(chance, count)
		for i := range count {
			low[i].No, high[i].No = i+1, 256-count+i
		}
		for _, l := range [][]api.User{drawn(chance, count), low, high} {
			if is := user.May(l); is != (count <= 8) || is != may(l) {
				t.Errorf("%d: %v", count, is)
			}
		}
	}
	for _, count := range []int{256, 257, 264, 512, 1 << 16, 1<<16 + 8} {
		l := make([]api.User, count)
		for i := range l {
			l[i] = api.User{No: i + 1, Key: make([]byte, 16)}
		}
		if user.May(l) {
			t.Errorf("%d may be", count)
		}
	}
}

// TestMayParts: P8.1, one user, with each number, role, and count of bytes of the key.
func TestMayParts(t *testing.T) {
	good := api.User{No: 5, Role: 2, Key: make([]byte, 20)}
	for _, n := range around() {
		u := good
		u.No = n
		if is := user.May([]api.User{u}); is != (n >= 1 && n <= 255) {
			t.Errorf("number %d: %v", n, is)
		}
		u = good
		u.Role = n
		if is := user.May([]api.User{u}); is != (n == 0 || n == 1 || n == 2 || n == 3) {
			t.Errorf("role %d: %v", n, is)
		}
	}
	for n := range 600 {
		u := good
		u.Key = make([]byte, n, 2*n+32)
		if is := user.May([]api.User{u}); is != (n >= 16 && n <= 64) {
			t.Errorf("a key of %d: %v", n, is)
		}
	}
	if user.May([]api.User{{}}) {
		t.Error("noughts")
	}
}

// TestMayPlace: P8.1, one part that may not be, at each place: none of them may be, and nobody is found.
func TestMayPlace(t *testing.T) {
	chance := rand.New(rand.NewSource(2))
	for count := 1; count <= 8; count++ {
		l := drawn(chance, count)
		for at := range l {
			bad := spoilt(l, at)
			if len(bad) < 500 {
				t.Fatal(len(bad))
			}
			for _, x := range bad {
				if user.May(x) {
					t.Errorf("%v may be", x)
				}
				for i := range l {
					for _, no := range []int{l[i].No, x[i].No} {
						if user.Find(x, no) != -1 || user.Role(x, no) != -1 {
							t.Errorf("user %d of %v: %d, %d", no, x, user.Find(x, no), user.Role(x, no))
						}
					}
				}
			}
		}
	}
}

// TestRising: P8.1, all small rows of numbers: equal ones, falling ones, and edges.
func TestRising(t *testing.T) {
	numbers := []int{-1, 0, 1, 2, 3, 254, 255, 256}
	secret := make([]byte, 16)
	for _, a := range numbers {
		for _, b := range numbers {
			held(t, []api.User{{No: a, Key: secret}, {No: b, Key: secret}}, numbers)
			for _, c := range numbers {
				held(t, []api.User{{No: a, Key: secret}, {No: b, Role: 1, Key: secret}, {No: c, Role: 3, Key: secret}}, numbers)
			}
		}
	}
}

// TestOrder: P8.1, any two of them exchanged.
func TestOrder(t *testing.T) {
	l := drawn(rand.New(rand.NewSource(3)), 8)
	for i := range l {
		for j := range l {
			x := slices.Clone(l)
			x[i], x[j] = x[j], x[i]
			if user.May(x) != (i == j) || user.Same(l, x) != (i == j) {
				t.Errorf("%d and %d exchanged: %v, %v", i, j, user.May(x), user.Same(l, x))
			}
		}
	}
}

// TestSame: P8.1, one more, one less, and one part that is another one, at each place.
func TestSame(t *testing.T) {
	chance := rand.New(rand.NewSource(4))
	for count := range 12 {
		l := drawn(chance, count)
		if !user.Same(l, l) || !user.Same(l, copied(l)) {
			t.Errorf("%d: another one", count)
		}
		differ := func(x []api.User) {
			t.Helper()
			if user.Same(l, x) || user.Same(x, l) {
				t.Errorf("%v and %v are the same", l, x)
			}
		}
		differ(append(copied(l), drawn(chance, 1)...))
		differ(append(copied(l), api.User{}))
		for at := range l {
			differ(slices.Delete(copied(l), at, at+1))
			with := func(change func(u *api.User)) {
				t.Helper()
				x := copied(l)
				change(&x[at])
				differ(x)
			}
			for _, n := range []int{1, -1, 256, 1 << 32, math.MinInt} {
				with(func(u *api.User) { u.No += n })
				with(func(u *api.User) { u.Role += n })
			}
			with(func(u *api.User) { u.No, u.Role = u.No+1, u.Role-1 })
			with(func(u *api.User) { u.Key = nil })
			with(func(u *api.User) { u.Key = u.Key[1:] })
			with(func(u *api.User) { u.Key = u.Key[:len(u.Key)-1] })
			with(func(u *api.User) { u.Key = append(u.Key, 0) })
			for i := range l[at].Key {
				for bit := range 8 {
					with(func(u *api.User) { u.Key[i] ^= 1 << bit })
				}
			}
		}
	}
}

// TestSameAny: P8.1 and R6, lists that may not be are the same, or not, as others are; nothing is nil or empty.
func TestSameAny(t *testing.T) {
	if !user.Same(nil, nil) || !user.Same(nil, []api.User{}) || !user.Same([]api.User{}, nil) {
		t.Error("none")
	}
	if !user.Same([]api.User{{}}, []api.User{{Key: []byte{}}}) || !user.Same([]api.User{{Key: []byte{}}}, []api.User{{}}) || user.Same([]api.User{{}}, nil) {
		t.Error("no key, and none")
	}
	bad := []api.User{{No: -5, Role: 9, Key: make([]byte, 100)}, {No: -5, Role: 9, Key: []byte{1}}, {No: 300}}
	if !user.Same(bad, copied(bad)) || user.Same(bad, bad[:2]) || user.Same(bad, []api.User{bad[1], bad[0], bad[2]}) {
		t.Error("of such as may not be")
	}
	many := slices.Repeat(bad, 100)
	if !user.Same(many, copied(many)) || user.Same(many, many[1:]) || user.Same(many, many[3:]) {
		t.Error("many")
	}
}

// TestFind: P8.1, each number, in users by chance, of each count, also in too many.
func TestFind(t *testing.T) {
	chance := rand.New(rand.NewSource(5))
	for count := range 12 {
		for range 40 {
			held(t, drawn(chance, count), around())
		}
	}
	for no := 1; no <= 255; no++ {
		held(t, []api.User{{No: no, Role: no % 4, Key: make([]byte, 64)}}, around())
	}
}

// TestFindAll: P8.1, all lists of numbers from 1 to 8, so that each place of each count is looked for.
func TestFindAll(t *testing.T) {
	secret := make([]byte, 16)
	for set := range 256 {
		var l []api.User
		for i := range 8 {
			if set>>i&1 == 1 {
				l = append(l, api.User{No: i + 1, Role: (i + set) % 4, Key: secret})
			}
		}
		if !user.May(l) {
			t.Errorf("%v may not be", l)
		}
		held(t, l, []int{-1, 0, 1, 2, 3, 4, 5, 6, 7, 8, 9, 255, 256})
	}
}

// secret is a session's key, made by the library alone: the label's length, the label, and the numbers.
func secret(u api.User, epoch int, draw, cn uint64) api.Id {
	text := []byte("\x07session")
	text = binary.BigEndian.AppendUint32(text, uint32(epoch))
	text = binary.BigEndian.AppendUint64(text, draw)
	text = binary.BigEndian.AppendUint64(text, cn)
	text = append(text, byte(u.No))
	h := hmac.New(sha256.New, u.Key)
	h.Write(text)
	return api.Id(h.Sum(nil))
}

// TestSecretTold: P8.2, one key that stands here as it is.
func TestSecretTold(t *testing.T) {
	u := api.User{No: 3, Role: api.Engineer, Key: []byte("0123456789abcdef")}
	got, is := user.Secret(u, 1, 8, 5)
	if want := "ecce3c826d16fff28b7dc18d5f78433d0ede8b140bbe6c0626bba45e4e6a62f2"; !is || hex.EncodeToString(got[:]) != want {
		t.Errorf("%x, %v", got, is)
	}
}

// TestSecret: P8.2, users and sessions that may be, by chance and at their edges.
func TestSecret(t *testing.T) {
	chance := rand.New(rand.NewSource(6))
	epochs := []int{0, 1, 2, 255, 256, 1<<16 - 1, 1 << 16, 1 << 24, 1<<30 - 1, 1 << 30}
	numbers := []uint64{0, 1, 255, 256, 1<<32 - 1, 1 << 32, 1<<63 - 1, 1 << 63, math.MaxUint64}
	good := func(u api.User, epoch int, draw, cn uint64) {
		t.Helper()
		if got, is := user.Secret(u, epoch, draw, cn); !is || got != secret(u, epoch, draw, cn) {
			t.Errorf("%v, %d, %d, %d: %x, %v", u, epoch, draw, cn, got, is)
		}
	}
	for _, epoch := range epochs {
		for _, draw := range numbers {
			for _, cn := range numbers {
				good(drawn(chance, 1)[0], epoch, draw, cn)
			}
		}
	}
	for no := 1; no <= 255; no++ {
		good(api.User{No: no, Role: no % 4, Key: key(chance, 32)}, 1, 2, 3)
	}
	for n := 16; n <= 64; n++ {
		good(api.User{No: 9, Key: key(chance, n)}, 1, 2, 3)
	}
	for range 3000 {
		good(drawn(chance, 1)[0], chance.Intn(1<<30+1), chance.Uint64(), chance.Uint64())
	}
}

// TestSecretWrong: P8.2, noughts and false of what may not be, with all else as it should.
func TestSecretWrong(t *testing.T) {
	refused := func(u api.User, epoch int) {
		t.Helper()
		for _, n := range []uint64{0, 1, math.MaxUint64} {
			if got, is := user.Secret(u, epoch, n, ^n); is || got != (api.Id{}) {
				t.Errorf("%v in epoch %d: %x, %v", u, epoch, got, is)
			}
		}
	}
	chance := rand.New(rand.NewSource(7))
	l := drawn(chance, 1)
	for _, epoch := range append(edges(), -2, -1, 1<<30+1, 1<<30+2, 1<<31, 1<<32+1<<30) {
		if epoch < 0 || epoch > 1<<30 {
			refused(l[0], epoch)
		}
	}
	for _, x := range spoilt(l, 0) {
		for _, epoch := range []int{-1, 0, 1, 1 << 30, 1<<30 + 1} {
			refused(x[0], epoch)
		}
	}
	refused(api.User{}, 0)
}

// TestSecretApart: P8.2, what a session's key hangs on, and what not.
func TestSecretApart(t *testing.T) {
	u := api.User{No: 7, Role: 1, Key: bytes.Repeat([]byte{5}, 16)}
	all := map[api.Id]bool{}
	add := func(u api.User, epoch int, draw, cn uint64) {
		k, is := user.Secret(u, epoch, draw, cn)
		if !is || all[k] {
			t.Errorf("%v, %d, %d, %d: %v, again", u, epoch, draw, cn, is)
		}
		all[k] = true
	}
	add(u, 0, 0, 0)
	for bit := range 64 {
		add(u, 0, 1<<bit, 0)
		add(u, 0, 0, 1<<bit)
		if bit <= 30 {
			add(u, 1<<bit, 0, 0)
		}
	}
	for no := 1; no <= 255; no++ {
		if no != 7 {
			add(api.User{No: no, Key: u.Key}, 0, 0, 0)
		}
	}
	for i := range u.Key {
		other := copied([]api.User{u})[0]
		other.Key[i]++
		add(other, 0, 0, 0)
	}
	for r := range 4 {
		k, is := user.Secret(api.User{No: 7, Role: r, Key: u.Key}, 0, 0, 0)
		if !is || k != secret(u, 0, 0, 0) {
			t.Errorf("of role %d: %x, %v", r, k, is)
		}
	}
}

// TestSome: P8.3, some of users that may be, in order, may be, too; and in them the same users are found.
func TestSome(t *testing.T) {
	chance := rand.New(rand.NewSource(8))
	for count := range 9 {
		l := drawn(chance, count)
		for set := range 1 << count {
			var some []api.User
			for i := range l {
				if set>>i&1 == 1 {
					some = append(some, l[i])
				}
			}
			if !user.May(some) || user.Same(some, l) != (len(some) == count) {
				t.Errorf("%v of %v", some, l)
			}
			for i, u := range some {
				if user.Find(some, u.No) != i || user.Role(some, u.No) != user.Role(l, u.No) {
					t.Errorf("user %d of %v", u.No, some)
				}
			}
		}
	}
}

// TestOwn: R3 and R5, what is handed in stays, also what lies behind it in memory, and answers hang on nothing that was asked ahead of them.
func TestOwn(t *testing.T) {
	chance := rand.New(rand.NewSource(9))
	for count := 1; count < 12; count++ {
		l := drawn(chance, count)
		behind := key(chance, 200)
		for i := range l {
			l[i].Key = bytes.Clone(behind)[:len(l[i].Key)]
		}
		l = append(l, l[0])[:count]
		was, more := copied(l), l[:count+1][count]
		for range 2 {
			first, _ := user.Secret(l[0], 1, 2, 3)
			user.Secret(l[count-1], -1, 5, 6)
			again, is := user.Secret(l[0], 1, 2, 3)
			if !is || again != first || first != secret(was[0], 1, 2, 3) || !user.Same(l, was) {
				t.Errorf("%v: %x, then %x", l, first, again)
			}
			held(t, l, []int{-1, 0, was[0].No, was[count-1].No, 256})
		}
		if !equal(l, was) || l[:count+1][count].No != more.No {
			t.Errorf("%v is changed to %v", was, l)
		}
		for i := range l {
			if !bytes.Equal(l[i].Key[:200], behind) {
				t.Errorf("what lies behind the key of user %d is changed", l[i].No)
			}
		}
	}
}
