package moot_test

import (
	"math"
	"slices"
	"strings"
	"testing"

	"moot/api"
	"moot/moot"
)

// session: a moot under test.
type session struct {
	*moot.Moot
	t *testing.T
}

func begin(t *testing.T, clients int, text string) session {
	t.Helper()
	p, e := moot.New(clients, text)
	if p == nil || e != api.OK {
		t.Fatalf("P4: New(%d, %q) = %v, %d, want a moot", clients, text, p, e)
	}
	return session{p, t}
}

func (s session) answers(call string, e, want api.Errno) {
	s.t.Helper()
	if e != want {
		s.t.Fatalf("%s = %d, want %d", call, e, want)
	}
}

func (s session) typed(client int, ops ...api.Op) {
	s.t.Helper()
	for _, o := range ops {
		s.answers("P4: Type", s.Type(client, o), api.OK)
	}
}

func (s session) refused(client int, o api.Op, want api.Errno) {
	s.t.Helper()
	s.answers("P4: Type", s.Type(client, o), want)
}

func (s session) ups(clients ...int) {
	s.t.Helper()
	for _, c := range clients {
		s.answers("P5: Up", s.Up(c), api.OK)
	}
}

func (s session) downs(clients ...int) {
	s.t.Helper()
	for _, c := range clients {
		s.answers("P5: Down", s.Down(c), api.OK)
	}
}

// texts: the server's, and then the clients'.
func (s session) texts(want ...string) {
	s.t.Helper()
	for i, w := range want {
		if text, e := s.Text(i - 1); text != w || e != api.OK {
			s.t.Fatalf("P6: Text(%d) = %q, %d, want %q", i-1, text, e, w)
		}
	}
}

func (s session) looks(client, up, down int, open ...api.Op) {
	s.t.Helper()
	l, e := s.Look(client)
	if e != api.OK || l.Up != up || l.Down != down || !slices.Equal(l.Open, open) {
		s.t.Fatalf("P6: Look(%d) = %+v, %d, want %d, %d, %+v", client, l, e, up, down, open)
	}
}

func (s session) did(want ...api.Op) {
	s.t.Helper()
	if l := slices.Collect(s.History()); !slices.Equal(l, want) {
		s.t.Fatalf("P7: History tells %+v, want %+v", l, want)
	}
}

// state: all that can be seen of a moot.
type state struct {
	texts   [5]string
	looks   [4]api.Look
	history []api.Op
}

func (s session) state() state {
	var all state
	for i := range all.texts {
		all.texts[i], _ = s.Text(i - 1)
	}
	for i := range all.looks {
		all.looks[i], _ = s.Look(i)
	}
	all.history = slices.Collect(s.History())
	return all
}

func (a state) same(b state) bool {
	for i, l := range a.looks {
		m := b.looks[i]
		if l.Up != m.Up || l.Down != m.Down || !slices.Equal(l.Open, m.Open) {
			return false
		}
	}
	return a.texts == b.texts && slices.Equal(a.history, b.history)
}

// noClients: numbers that no client of so many has.
func noClients(clients int) []int {
	return []int{math.MinInt, math.MinInt32, -2, -1, clients, clients + 1, 4, 5, math.MaxInt32, math.MaxInt}
}

func TestNewMoot(t *testing.T) {
	for clients := 1; clients <= 4; clients++ {
		for _, text := range []string{"", "abc", "\xff\x00\u00e4", strings.Repeat("a", 60), strings.Repeat("\u00e4", 30)} {
			s := begin(t, clients, text)
			s.texts(text)
			for c := range clients {
				s.looks(c, 0, 0)
				if own, e := s.Text(c); own != text || e != api.OK {
					t.Errorf("P4: Text(%d) = %q, %d, want %q", c, own, e, text)
				}
			}
		}
	}
}

func TestNewRefuses(t *testing.T) {
	check := func(clients int, text string, want api.Errno) {
		if p, e := moot.New(clients, text); p != nil || e != want {
			t.Errorf("P4: New(%d, %d bytes) = %v, %d, want %d", clients, len(text), p, e, want)
		}
	}
	for _, n := range []int{math.MinInt, -1, 0, 5, math.MaxInt} {
		check(n, "abc", api.ErrArg)
		check(n, strings.Repeat("a", 61), api.ErrArg)
	}
	for n := 1; n <= 4; n++ {
		check(n, strings.Repeat("a", 61), api.ErrFull)
		check(n, strings.Repeat("\u00e4", 31), api.ErrFull)
		check(n, strings.Repeat("a", 100000), api.ErrFull)
	}
}

func TestNoSuchClient(t *testing.T) {
	for clients := 1; clients <= 4; clients++ {
		s := begin(t, clients, strings.Repeat("a", 60))
		for _, c := range noClients(clients) {
			for _, o := range []api.Op{del(0, 0), ins(0, 'x', 0), none(0), ins(-1, 0, 0)} {
				s.refused(c, o, api.ErrArg)
			}
			s.answers("P5: Up", s.Up(c), api.ErrArg)
			s.answers("P5: Down", s.Down(c), api.ErrArg)
			if l, e := s.Look(c); l.Up != 0 || l.Down != 0 || len(l.Open) != 0 || e != api.ErrArg {
				t.Errorf("P6: Look(%d) = %+v, %d, want ErrArg", c, l, e)
			}
			if text, e := s.Text(c); c != -1 && (text != "" || e != api.ErrArg) {
				t.Errorf("P6: Text(%d) = %q, %d, want ErrArg", c, text, e)
			}
		}
	}
}

func TestDocumentExample(t *testing.T) {
	s := begin(t, 2, "abc")
	s.typed(0, ins(1, 'x', 0))
	s.typed(1, del(1, 0))
	s.texts("abc", "axbc", "ac")
	s.looks(0, 1, 0, ins(1, 'x', 0))
	s.looks(1, 1, 0, del(1, 1))
	s.ups(0)
	s.texts("axbc", "axbc", "ac")
	s.looks(0, 0, 1, ins(1, 'x', 0))
	s.looks(1, 1, 1, del(1, 1))
	s.ups(1)
	s.texts("axc", "axbc", "ac")
	s.looks(0, 0, 2, ins(1, 'x', 0))
	s.looks(1, 0, 2, del(1, 1))
	s.downs(0)
	s.texts("axc", "axbc", "ac")
	s.looks(0, 0, 1)
	s.downs(0)
	s.texts("axc", "axc", "ac")
	s.looks(0, 0, 0)
	s.downs(1)
	s.texts("axc", "axc", "axc")
	s.looks(1, 0, 1, del(2, 1))
	s.downs(1)
	s.texts("axc", "axc", "axc")
	s.looks(1, 0, 0)
}

// The Site that is typed has no weight: the client's number stands for it, and decides between inserts at one place.
func TestTypedSite(t *testing.T) {
	s := begin(t, 4, "")
	for c := range 4 {
		s.typed(c, ins(0, 'a'+c, 3-c))
		s.looks(c, 1, 0, ins(0, 'a'+c, c))
	}
	s.ups(3, 1, 0, 2)
	s.texts("abcd", "a", "b", "c", "d")
	for c := range 4 {
		s.downs(c, c, c, c)
		s.looks(c, 0, 0)
	}
	s.texts("abcd", "abcd", "abcd", "abcd", "abcd")
	s.typed(2, del(0, 1))
	s.looks(2, 1, 0, del(0, 2))
}

// Each op that comes turns all open ones, one behind the other; two that take the same byte become nothing.
func TestOpenOpsAreTurned(t *testing.T) {
	s := begin(t, 2, "abc")
	s.typed(1, ins(0, 'x', 0), del(2, 0), ins(3, 'y', 0))
	s.typed(0, del(1, 0))
	s.texts("abc", "ac", "xacy")
	s.ups(0)
	s.downs(1)
	s.texts("ac", "ac", "xacy")
	s.looks(1, 3, 0, ins(0, 'x', 1), none(1), ins(3, 'y', 1))
	s.typed(0, del(0, 0))
	s.ups(0)
	s.downs(1)
	s.texts("c", "c", "xcy")
	s.looks(1, 3, 0, ins(0, 'x', 1), none(1), ins(2, 'y', 1))
	s.ups(1)
	s.texts("xc", "c", "xcy")
	s.ups(1)
	s.texts("xc", "c", "xcy")
	s.ups(1)
	s.texts("xcy", "c", "xcy")
	s.looks(1, 0, 3, ins(0, 'x', 1), none(1), ins(2, 'y', 1))
	s.looks(0, 0, 5, del(1, 0), del(0, 0))
	s.downs(0)
	s.looks(0, 0, 4, del(0, 0))
	s.downs(0)
	s.looks(0, 0, 3)
	s.downs(0, 0)
	s.texts("xcy", "xc", "xcy")
	s.downs(0)
	s.downs(1)
	s.looks(1, 0, 2, none(1), ins(2, 'y', 1))
	s.downs(1, 1)
	s.looks(1, 0, 0)
	s.texts("xcy", "xcy", "xcy")
}

// The server turns a message only by what its client had not heard of.
func TestServerForgetsWhatCame(t *testing.T) {
	s := begin(t, 2, "")
	s.typed(0, ins(0, 'a', 0), ins(1, 'b', 0), ins(2, 'c', 0))
	s.ups(0, 0, 0)
	s.downs(1, 1)
	s.texts("abc", "abc", "ab")
	s.typed(1, ins(0, 'x', 0), ins(3, 'y', 0))
	s.ups(1)
	s.texts("xabc", "abc", "xaby")
	s.downs(1)
	s.texts("xabc", "abc", "xabcy")
	s.looks(1, 1, 1, ins(0, 'x', 1), ins(4, 'y', 1))
	s.ups(1)
	s.texts("xabcy", "abc", "xabcy")
	s.downs(0, 0, 0, 0, 0, 1, 1)
	s.texts("xabcy", "xabcy", "xabcy")
}

func TestTypeWrongOp(t *testing.T) {
	s := begin(t, 2, strings.Repeat("a", 60))
	for _, o := range wrongOps() {
		s.refused(0, o, api.ErrOp)
	}
	for site := range 4 {
		s.refused(0, none(site), api.ErrOp)
		s.refused(0, ins(61, 'x', site), api.ErrOp)
		s.refused(0, ins(1000, 'x', site), api.ErrOp)
		s.refused(0, del(60, site), api.ErrOp)
		s.refused(0, del(1000, site), api.ErrOp)
	}
	s.looks(0, 0, 0)
	u := begin(t, 1, "")
	u.refused(0, del(0, 0), api.ErrOp)
	u.refused(0, ins(1, 'x', 0), api.ErrOp)
	u.typed(0, ins(0, 0, 0), ins(1, 255, 0))
	u.texts("", "\x00\xff")
}

// What fits is asked of the client's text, not of the server's.
func TestTypeFitsOwnText(t *testing.T) {
	s := begin(t, 2, "a")
	s.typed(0, ins(1, 'b', 0), ins(2, 'c', 0), del(2, 0))
	s.refused(1, del(1, 0), api.ErrOp)
	s.ups(0, 0)
	s.refused(1, del(2, 0), api.ErrOp)
	s.downs(1)
	s.typed(1, del(1, 0))
	s.refused(1, del(1, 0), api.ErrOp)
	s.refused(1, ins(2, 'x', 0), api.ErrOp)
	s.typed(1, ins(1, 'x', 0))
}

func TestTypeFullText(t *testing.T) {
	s := begin(t, 2, strings.Repeat("a", 59))
	s.typed(0, ins(59, 'x', 0))
	s.refused(0, ins(0, 'y', 0), api.ErrFull)
	s.refused(0, ins(60, 'y', 0), api.ErrFull)
	s.refused(0, ins(61, 'y', 0), api.ErrOp)
	s.typed(0, del(59, 0), ins(0, 'y', 0))
	s.refused(0, ins(0, 'y', 0), api.ErrFull)
}

// What comes is done however long the text is; only typing has a bound.
func TestTextGrowsPastTheBound(t *testing.T) {
	s := begin(t, 2, strings.Repeat("a", 59))
	s.typed(0, ins(59, 'x', 0))
	s.typed(1, ins(59, 'y', 0))
	s.ups(0, 1)
	s.downs(0, 0, 1, 1)
	long := strings.Repeat("a", 59) + "xy"
	s.texts(long, long, long)
	for c := range 2 {
		s.refused(c, ins(61, 'z', 0), api.ErrFull)
		s.refused(c, ins(62, 'z', 0), api.ErrOp)
		s.refused(c, del(61, 0), api.ErrOp)
	}
	s.typed(0, del(60, 0))
	s.refused(0, ins(0, 'z', 0), api.ErrFull)
	s.typed(0, del(0, 0), ins(0, 'z', 0))
}

func TestTypeBusy(t *testing.T) {
	s := begin(t, 2, strings.Repeat("a", 40))
	for i := range 20 {
		s.typed(0, ins(40+i, 'x', 0))
	}
	s.refused(0, del(0, 0), api.ErrBusy)
	s.refused(0, ins(0, 'y', 0), api.ErrFull)
	s.refused(0, ins(61, 'y', 0), api.ErrOp)
	s.typed(1, del(0, 0))
	s.ups(1)
	s.downs(0)
	s.refused(0, ins(0, 'y', 0), api.ErrBusy)
	s.ups(0)
	s.refused(0, ins(0, 'y', 0), api.ErrBusy)
	s.looks(1, 0, 2, del(0, 1))
	s.downs(0)
	s.typed(0, ins(0, 'y', 0))
	s.refused(0, del(0, 0), api.ErrBusy)
}

// An op that has become nothing is open still.
func TestBusyWithNothing(t *testing.T) {
	s := begin(t, 2, strings.Repeat("a", 30))
	for range 20 {
		s.typed(0, del(0, 0))
		s.typed(1, del(0, 0))
	}
	for range 20 {
		s.ups(1)
		s.downs(0)
	}
	l, _ := s.Look(0)
	for i, o := range l.Open {
		if o != none(0) {
			t.Errorf("P6: open op %d is %+v, want nothing", i, o)
		}
	}
	s.refused(0, del(0, 0), api.ErrBusy)
	s.ups(0)
	s.downs(0)
	s.typed(0, del(0, 0))
}

func TestNoMessage(t *testing.T) {
	s := begin(t, 2, "abc")
	for c := range 2 {
		s.answers("P5: Up", s.Up(c), api.ErrNone)
		s.answers("P5: Down", s.Down(c), api.ErrNone)
	}
	s.typed(0, del(0, 0))
	s.answers("P5: Up", s.Up(1), api.ErrNone)
	s.answers("P5: Down", s.Down(0), api.ErrNone)
	s.answers("P5: Down", s.Down(1), api.ErrNone)
	s.ups(0)
	s.answers("P5: Up", s.Up(0), api.ErrNone)
	s.downs(0, 1)
	s.answers("P5: Down", s.Down(0), api.ErrNone)
	s.answers("P5: Down", s.Down(1), api.ErrNone)
}

func TestErrorsChangeNothing(t *testing.T) {
	s := begin(t, 2, strings.Repeat("a", 40))
	for range 20 {
		s.typed(0, ins(0, 'x', 0))
	}
	s.typed(1, del(0, 0))
	s.ups(1)
	s.downs(1)
	before := s.state()
	for _, o := range append(wrongOps(), none(0), ins(61, 'y', 0), del(60, 0), ins(0, 'y', 0), del(0, 0)) {
		if s.Type(0, o) == api.OK {
			t.Errorf("P4: Type of %+v = OK, want an error", o)
		}
	}
	s.answers("P5: Up", s.Up(1), api.ErrNone)
	s.answers("P5: Down", s.Down(1), api.ErrNone)
	for _, c := range noClients(2) {
		s.Type(c, del(0, 0))
		s.Up(c)
		s.Down(c)
		s.Text(c)
		s.Look(c)
	}
	if after := s.state(); !before.same(after) {
		t.Errorf("P1: errors changed %+v to %+v", before, after)
	}
}

// What New gives with an error has no clients and no server.
func TestNoMoot(t *testing.T) {
	p, _ := moot.New(0, "")
	s := session{p, t}
	for c := -1; c < 2; c++ {
		s.answers("P1: Type", s.Type(c, ins(0, 'x', 0)), api.ErrArg)
		s.answers("P1: Up", s.Up(c), api.ErrArg)
		s.answers("P1: Down", s.Down(c), api.ErrArg)
		if text, e := s.Text(c); text != "" || e != api.ErrArg {
			t.Errorf("P1: Text(%d) = %q, %d, want ErrArg", c, text, e)
		}
		if _, e := s.Look(c); e != api.ErrArg {
			t.Errorf("P1: Look(%d): %d, want ErrArg", c, e)
		}
	}
	s.did()
}

// scribble writes all over a list, its spare room too.
func scribble(l []api.Op) {
	l = l[:cap(l)]
	for i := range l {
		l[i] = api.Op{Kind: 9, At: 9, Byte: 9, Site: 9}
	}
}

func TestLooksAreTheCallers(t *testing.T) {
	s := begin(t, 2, "abc")
	for i := range 7 {
		open := make([]api.Op, i)
		for k := range open {
			open[k] = ins(0, 'x', 0)
		}
		kept, _ := s.Look(0)
		l, _ := s.Look(0)
		scribble(l.Open)
		if !slices.Equal(kept.Open, open) {
			t.Errorf("P2: another look is %+v now, want %+v", kept.Open, open)
		}
		s.looks(0, i, 0, open...)
		s.typed(0, ins(0, 'x', 0))
		if !slices.Equal(kept.Open, open) {
			t.Errorf("P2: an earlier look is %+v now, want %+v", kept.Open, open)
		}
	}
	early, _ := s.Look(0)
	s.ups(0, 0, 0, 0, 0, 0, 0)
	for range 7 {
		s.downs(0, 1)
		l, _ := s.Look(0)
		scribble(l.Open)
	}
	s.texts("xxxxxxxabc", "xxxxxxxabc", "xxxxxxxabc")
	if len(early.Open) != 7 || early.Open[6] != ins(0, 'x', 0) {
		t.Errorf("P2: an earlier look is %+v now", early.Open)
	}
}

// An op that comes turns the open ones, not what was told of them.
func TestLooksStay(t *testing.T) {
	s := begin(t, 2, "abc")
	s.typed(0, del(2, 0))
	s.typed(1, del(0, 0))
	l, _ := s.Look(0)
	s.ups(1)
	s.downs(0)
	s.looks(0, 1, 0, del(1, 0))
	if l.Open[0] != del(2, 0) {
		t.Errorf("P2: an earlier look is %+v now", l.Open)
	}
}

func TestAskingChangesNothing(t *testing.T) {
	s := begin(t, 2, "abc")
	s.typed(0, ins(1, 'x', 0), del(0, 0))
	s.typed(1, del(2, 0))
	s.ups(0, 1)
	before := s.state()
	for range 3 {
		for _, c := range append(noClients(2), 0, 1) {
			s.Text(c)
			s.Look(c)
		}
		for range s.History() {
		}
	}
	if after := s.state(); !before.same(after) {
		t.Errorf("P2: asking changed %+v to %+v", before, after)
	}
}

func TestMootsStandAlone(t *testing.T) {
	a, b := begin(t, 2, "abc"), begin(t, 2, "abc")
	a.typed(0, ins(0, 'x', 0))
	a.ups(0)
	a.downs(1)
	b.texts("abc", "abc", "abc")
	b.did()
	b.looks(0, 0, 0)
	b.looks(1, 0, 0)
	b.answers("P5: Up", b.Up(0), api.ErrNone)
	b.answers("P5: Down", b.Down(0), api.ErrNone)
	b.typed(1, del(2, 0))
	b.ups(1)
	a.texts("xabc", "xabc", "xabc")
	a.looks(0, 0, 1, ins(0, 'x', 0))
	a.looks(1, 0, 0)
	a.did(ins(0, 'x', 0))
	b.did(del(2, 1))
}
