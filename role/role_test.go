package role_test

import (
	"math"
	"math/rand"
	"slices"
	"strings"
	"testing"

	"pelican/api"
	"pelican/role"
)

// words are the names of the commands, from CmdGet on, which is 0.
var words = []string{"get", "hold", "free", "next", "plan", "red", "clear", "close"}

// rights are what each role may, from Viewer on, which is 0.
var rights = []string{
	"get close",
	"get hold free next close",
	"get hold free next plan red clear close",
	"get red clear close",
}

// may tells by the words above whether a role may ask for a command.
func may(r, c int) bool {
	return r >= 0 && r < len(rights) && c >= 0 && c < len(words) && slices.Contains(strings.Fields(rights[r]), words[c])
}

// some are all numbers around those of roles and commands, and such as those of no role and no command: the edges of all kinds of integers, and what a shorter integer would take for a small one.
func some() []int {
	var l []int
	for n := -300; n <= 300; n++ {
		l = append(l, n)
	}
	for _, bits := range []int{8, 15, 16, 31, 32, 62} {
		for low := -1; low <= 8; low++ {
			l = append(l, 1<<bits+low, -1<<bits+low)
		}
	}
	for near := range 9 {
		l = append(l, math.MinInt+near, math.MaxInt-near)
	}
	return l
}

// TestNumbers: the tests' words count as api's roles and commands do.
func TestNumbers(t *testing.T) {
	roles := []int{api.Viewer, api.Operator, api.Engineer, api.Emergency}
	cmds := []int{api.CmdGet, api.CmdHold, api.CmdFree, api.CmdNext, api.CmdPlan, api.CmdRed, api.CmdClear, api.CmdClose}
	if !slices.Equal(roles, []int{0, 1, 2, 3}) || len(roles) != api.Roles || len(roles) != len(rights) {
		t.Error("roles", roles)
	}
	if !slices.Equal(cmds, []int{0, 1, 2, 3, 4, 5, 6, 7}) || len(cmds) != api.Cmds || len(cmds) != len(words) {
		t.Error("commands", cmds)
	}
}

// TestIs: P7.1, roles, and no roles.
func TestIs(t *testing.T) {
	for _, r := range some() {
		if want := r == 0 || r == 1 || r == 2 || r == 3; role.Is(r) != want {
			t.Errorf("role %d: %v", r, role.Is(r))
		}
	}
}

// TestMay: P7.1, each role and each command, and such as are none.
func TestMay(t *testing.T) {
	for _, r := range some() {
		for _, c := range some() {
			if role.May(r, c) != may(r, c) {
				t.Errorf("role %d, command %d: %v", r, c, role.May(r, c))
			}
		}
	}
}

// TestMayByCommand: P7.1, command by command, as the chapter tells it.
func TestMayByCommand(t *testing.T) {
	everybody := []int{api.Viewer, api.Operator, api.Engineer, api.Emergency}
	for _, x := range []struct{ cmds, roles []int }{
		{[]int{api.CmdGet, api.CmdClose}, everybody},
		{[]int{api.CmdHold, api.CmdFree, api.CmdNext}, []int{api.Operator, api.Engineer}},
		{[]int{api.CmdPlan}, []int{api.Engineer}},
		{[]int{api.CmdRed, api.CmdClear}, []int{api.Engineer, api.Emergency}},
		{[]int{-1, api.Cmds, api.Cmds + 1, math.MinInt, math.MaxInt}, nil},
	} {
		for _, c := range x.cmds {
			for _, r := range everybody {
				if role.May(r, c) != slices.Contains(x.roles, r) {
					t.Errorf("role %d, command %d: %v", r, c, role.May(r, c))
				}
			}
			if !slices.Equal(role.Who(c), x.roles) {
				t.Errorf("command %d: %v", c, role.Who(c))
			}
			for _, r := range []int{-1, api.Roles, math.MinInt, math.MaxInt} {
				if role.May(r, c) {
					t.Errorf("no role, %d, may %d", r, c)
				}
			}
		}
	}
}

// TestTurns: P7.2, what turns, and what is no command.
func TestTurns(t *testing.T) {
	turning := strings.Fields("hold free next plan red clear")
	for _, c := range some() {
		want := c >= 0 && c < len(words) && slices.Contains(turning, words[c])
		if role.Turns(c) != want {
			t.Errorf("command %d: %v", c, role.Turns(c))
		}
	}
}

// TestAll: P7.2, a role's commands, rising; none of what is no role.
func TestAll(t *testing.T) {
	for _, r := range some() {
		var want []int
		for c := range words {
			if may(r, c) {
				want = append(want, c)
			}
		}
		if got := role.All(r); !slices.Equal(got, want) {
			t.Errorf("role %d: %v", r, got)
		}
	}
	if got := role.All(api.Operator); !slices.Equal(got, []int{0, 1, 2, 3, 7}) {
		t.Errorf("an operator: %v", got)
	}
}

// TestWho: P7.2, a command's roles, rising; none of what is no command.
func TestWho(t *testing.T) {
	for _, c := range some() {
		var want []int
		for r := range rights {
			if may(r, c) {
				want = append(want, r)
			}
		}
		if got := role.Who(c); !slices.Equal(got, want) {
			t.Errorf("command %d: %v", c, got)
		}
	}
}

// spoil changes all of a list, as far as there is memory behind it.
func spoil(l []int) {
	l = l[:cap(l)]
	for i := range l {
		l[i] = 99
	}
}

// TestOwn: R3 and R5, what is answered is the caller's own, and hangs on nothing that was asked ahead of it.
func TestOwn(t *testing.T) {
	for n := -1; n <= 8; n++ {
		all, who := role.All(n), role.Who(n)
		wantAll, wantWho := slices.Clone(all), slices.Clone(who)
		secondAll, secondWho := role.All(n), role.Who(n)
		spoil(all)
		spoil(who)
		if !slices.Equal(secondAll, wantAll) || !slices.Equal(role.All(n), wantAll) {
			t.Errorf("role %d: %v, then %v", n, secondAll, role.All(n))
		}
		if !slices.Equal(secondWho, wantWho) || !slices.Equal(role.Who(n), wantWho) {
			t.Errorf("command %d: %v, then %v", n, secondWho, role.Who(n))
		}
		for c := -1; c <= 8; c++ {
			if role.May(n, c) != may(n, c) {
				t.Errorf("role %d, command %d: %v", n, c, role.May(n, c))
			}
		}
	}
}

// TestName: P7.3, the names of the commands, from CmdGet on, and none of any other one.
func TestName(t *testing.T) {
	for _, c := range some() {
		want := ""
		if c >= 0 && c < len(words) {
			want = words[c]
		}
		if got := role.Name(c); got != want {
			t.Errorf("command %d: %q", c, got)
		}
	}
	for c, want := range map[int]string{
		api.CmdGet: "get", api.CmdHold: "hold", api.CmdFree: "free", api.CmdNext: "next",
		api.CmdPlan: "plan", api.CmdRed: "red", api.CmdClear: "clear", api.CmdClose: "close",
	} {
		if got := role.Name(c); got != want {
			t.Errorf("command %d: %q, not %q", c, got, want)
		}
	}
}

// near are texts that differ from s in one place: a byte less, more, or another one.
func near(s string) []string {
	var l []string
	for i := range len(s) + 1 {
		for b := range 256 {
			l = append(l, s[:i]+string([]byte{byte(b)})+s[i:])
		}
	}
	for i := range len(s) {
		l = append(l, s[:i]+s[i+1:])
		for b := range 256 {
			l = append(l, s[:i]+string([]byte{byte(b)})+s[i+1:])
		}
	}
	return l
}

// TestRead: P7.3, each name, whatever memory it stands in.
func TestRead(t *testing.T) {
	all := strings.Join(words, "")
	for c, s := range words {
		at := strings.Index(all, s)
		for _, same := range []string{s, strings.Clone(s), all[at : at+len(s)]} {
			if got := role.Read(same); got != c {
				t.Errorf("%q: %d", same, got)
			}
		}
	}
	if got := role.Read("clear"); got != 6 {
		t.Errorf("clear: %d", got)
	}
}

// TestReadNone: P7.3, what is no name: also the empty text, which is the Name of what is no command.
func TestReadNone(t *testing.T) {
	wrong := []string{
		"", " ", "\x00", "\xff", "Get", "GET", "get ", " get", "get\n", "get hold", "gethold", "getget", "teg", "cl", "clea", "clears", "h", "0", "7", "-1",
		"gеt", "ｇｅｔ", "get\u0301", strings.Repeat("get", 1000), strings.Repeat("x", 1<<20),
	}
	for _, s := range words {
		wrong = append(wrong, strings.ToUpper(s), strings.ToUpper(s[:1])+s[1:], s+s, s+"\x00", "\x00"+s)
		for i := range len(s) {
			wrong = append(wrong, s[:i], s[i+1:])
		}
		for _, other := range words {
			wrong = append(wrong, s+other, s+" "+other)
		}
		for _, other := range near(s) {
			if !slices.Contains(words, other) {
				wrong = append(wrong, other)
			}
		}
	}
	for _, s := range wrong {
		if got := role.Read(s); got != -1 {
			t.Errorf("%.40q: %d", s, got)
		}
	}
}

// TestReadByChance: P7.3, texts of the letters that names are made of.
func TestReadByChance(t *testing.T) {
	chance := rand.New(rand.NewSource(7))
	letters := "acdefghlnoprstx"
	for range 200000 {
		b := make([]byte, chance.Intn(7))
		for i := range b {
			b[i] = letters[chance.Intn(len(letters))]
		}
		if got := role.Read(string(b)); got != slices.Index(words, string(b)) {
			t.Errorf("%q: %d", b, got)
		}
	}
}

// TestNameRead: P7.3, a name tells its command, and no two have one.
func TestNameRead(t *testing.T) {
	for c := range api.Cmds {
		if got := role.Read(role.Name(c)); got != c {
			t.Errorf("command %d is read as %d", c, got)
		}
	}
	for _, c := range some() {
		if c >= 0 && c < api.Cmds {
			continue
		}
		if got := role.Read(role.Name(c)); got != -1 {
			t.Errorf("what is no command, %d, is read as %d", c, got)
		}
	}
}

// TestFollows: P7.4, a viewer may nothing that turns, what a viewer may everybody may, an engineer may all.
func TestFollows(t *testing.T) {
	for c := range api.Cmds {
		if role.Turns(c) && role.May(api.Viewer, c) {
			t.Errorf("a viewer may %s", role.Name(c))
		}
		for r := range api.Roles {
			if role.May(api.Viewer, c) && !role.May(r, c) {
				t.Errorf("role %d may not %s", r, role.Name(c))
			}
		}
		if !role.May(api.Engineer, c) {
			t.Errorf("an engineer may not %s", role.Name(c))
		}
	}
	viewers := role.All(api.Viewer)
	if len(viewers) == 0 || slices.ContainsFunc(viewers, role.Turns) {
		t.Errorf("a viewer: %v", viewers)
	}
	if all := role.All(api.Engineer); len(all) != api.Cmds {
		t.Errorf("an engineer: %v", all)
	}
}

// TestAgree: P7.1 and P7.2, May, All and Who tell the same.
func TestAgree(t *testing.T) {
	for _, r := range some() {
		for c := -2; c <= 9; c++ {
			is := role.May(r, c)
			if slices.Contains(role.All(r), c) != is || slices.Contains(role.Who(c), r) != is {
				t.Errorf("role %d, command %d: %v, %v, %v", r, c, is, role.All(r), role.Who(c))
			}
		}
	}
}
