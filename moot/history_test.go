package moot_test

import (
	"iter"
	"slices"
	"strings"
	"testing"

	"moot/api"
)

// Only what comes to the server is told, not what is typed, nor what comes to a client.
func TestHistoryExample(t *testing.T) {
	s := begin(t, 2, "abc")
	s.did()
	s.typed(0, ins(1, 'x', 0))
	s.typed(1, del(1, 0))
	s.did()
	s.ups(0)
	s.did(ins(1, 'x', 0))
	s.ups(1)
	s.did(ins(1, 'x', 0), del(2, 1))
	s.downs(0, 0, 1, 1)
	s.did(ins(1, 'x', 0), del(2, 1))
}

// The ops are told as the server did them: with the client's number, in the order in which they came, turned by what the client had not heard of.
func TestHistoryIsAsDone(t *testing.T) {
	s := begin(t, 4, "abcd")
	s.typed(3, ins(0, 'x', 0), del(4, 1), ins(4, 'z', 2))
	s.typed(1, del(3, 0), del(0, 0))
	s.typed(0, ins(0, 'y', 3))
	s.texts("abcd", "yabcd", "bc", "abcd", "xabcz")
	s.ups(3, 1)
	// Both took d away: what comes second is nothing, and is told all the same.
	s.ups(3, 0, 1, 3)
	s.did(ins(0, 'x', 3), del(4, 1), none(3), ins(0, 'y', 0), del(2, 1), ins(4, 'z', 3))
	s.texts("yxbcz")
}

// Where all take the same byte away, only the first one does something; the others are told as nothing.
func TestHistoryTellsNothings(t *testing.T) {
	s := begin(t, 3, "a")
	for c := range 3 {
		s.typed(c, del(0, 0))
	}
	s.ups(2, 0, 1)
	s.did(del(0, 2), none(0), none(1))
	s.texts("", "", "", "")
}

// What is done in a text longer than may be typed is told like all else.
func TestHistoryPastTheBound(t *testing.T) {
	s := begin(t, 2, strings.Repeat("a", 59))
	s.typed(0, ins(59, 0, 0))
	s.typed(1, ins(59, 255, 0), del(59, 0))
	s.ups(0, 1, 1)
	s.did(ins(59, 0, 0), ins(60, 255, 1), del(60, 1))
}

// wrote: a moot of one client, whose server did the first of these ops; more of them are on their way to it.
func wrote(t *testing.T, done, more int) (session, []api.Op) {
	t.Helper()
	s := begin(t, 1, "")
	var l []api.Op
	for i := range done + more {
		l = append(l, ins(i, 'a'+i, 0))
		s.typed(0, l[i])
	}
	for range done {
		s.ups(0)
	}
	return s, l
}

// taken: the first ops that are told, and how often one was told.
func taken(told iter.Seq[api.Op], most int) ([]api.Op, int) {
	var l []api.Op
	times := 0
	told(func(o api.Op) bool {
		times++
		l = append(l, o)
		return len(l) < most
	})
	return l, times
}

func TestHistoryIsLeftEarly(t *testing.T) {
	s, done := wrote(t, 5, 0)
	told := s.History()
	for most := 1; most <= 5; most++ {
		l, times := taken(told, most)
		if times != most || !slices.Equal(l, done[:most]) {
			t.Errorf("P7: left behind %d ops, %d were told: %+v", most, times, l)
		}
		s.did(done...)
	}
	leave := func() api.Op {
		for o := range told {
			return o
		}
		return none(0)
	}
	for range 2 {
		if o := leave(); o != done[0] {
			t.Errorf("P7: the first op told is %+v, want %+v", o, done[0])
		}
	}
}

// Nothing that was told or left stands in the way of ranging again, also within a ranging.
func TestHistoryIsRangedAgain(t *testing.T) {
	s, done := wrote(t, 3, 2)
	told := s.History()
	for range 3 {
		if l := slices.Collect(told); !slices.Equal(l, done[:3]) {
			t.Errorf("P7: History tells %+v, want %+v", l, done[:3])
		}
	}
	n := 0
	for o := range told {
		if o != done[n] {
			t.Errorf("P7: op %d is %+v, want %+v", n, o, done[n])
		}
		if l := slices.Collect(told); !slices.Equal(l, done[:3]) {
			t.Errorf("P7: within a ranging History tells %+v, want %+v", l, done[:3])
		}
		n++
	}
	s.ups(0, 0)
	if l := slices.Collect(told); n != 3 || !slices.Equal(l, done) {
		t.Errorf("P7: %d ops were told, and then %+v, want %+v", n, l, done)
	}
}

// What is done behind the call is told, if it is done ahead of the ranging.
func TestHistoryBehindTheCall(t *testing.T) {
	s, done := wrote(t, 0, 20)
	early := s.History()
	for i := range done {
		told := s.History()
		s.ups(0)
		for _, h := range []iter.Seq[api.Op]{early, told, s.History()} {
			if l := slices.Collect(h); !slices.Equal(l, done[:i+1]) {
				t.Errorf("P7: behind %d ops History tells %+v", i+1, l)
			}
		}
	}
}

// What is done while it is ranged over is not seen there, however many ops were done; but by another ranging that begins then.
func TestHistoryMeanwhile(t *testing.T) {
	for first := 1; first <= 9; first++ {
		s, done := wrote(t, first, 11)
		told := s.History()
		var l []api.Op
		for o := range told {
			l = append(l, o)
			s.Up(0)
			s.Down(0)
			seen := min(first+len(l), len(done))
			if again := slices.Collect(told); !slices.Equal(again, done[:seen]) {
				t.Errorf("P7: a ranging that begins behind %d ops tells %+v", seen, again)
			}
		}
		if !slices.Equal(l, done[:first]) {
			t.Errorf("P7: a ranging that began behind %d ops tells %+v", first, l)
		}
	}
}

// Where ops are pulled the ranging begins with the first that is asked for.
func TestHistoryIsPulled(t *testing.T) {
	s, done := wrote(t, 1, 3)
	next, stop := iter.Pull(iter.Seq[api.Op](s.History()))
	defer stop()
	s.ups(0)
	var l []api.Op
	for {
		o, ok := next()
		if !ok {
			break
		}
		l = append(l, o)
		s.ups(0)
	}
	if !slices.Equal(l, done[:2]) {
		t.Errorf("P7: %+v were pulled, want %+v", l, done[:2])
	}
}

// Neither what the caller writes over nor a call that answers an error changes what is told.
func TestHistoryStays(t *testing.T) {
	s, done := wrote(t, 4, 2)
	for range 2 {
		scribble(slices.Collect(s.History()))
		l, _ := s.Look(0)
		scribble(l.Open)
		for o := range s.History() {
			o.At, o.Site = 9, 3
		}
	}
	s.did(done[:4]...)
	for _, c := range noClients(1) {
		s.answers("P5: Up", s.Up(c), api.ErrArg)
	}
	s.did(done[:4]...)
	s.ups(0, 0)
	s.answers("P5: Up", s.Up(0), api.ErrNone)
	s.did(done...)
}

// Another client's message turns what is open, not what was done.
func TestHistoryIsNotTurned(t *testing.T) {
	s := begin(t, 2, "abc")
	s.typed(0, del(2, 0))
	s.typed(1, del(0, 0), ins(0, 'x', 0))
	s.ups(0)
	s.did(del(2, 0))
	s.ups(1)
	s.did(del(2, 0), del(0, 1))
	s.downs(0, 0)
	s.ups(1)
	s.downs(1, 1, 1, 0)
	s.did(del(2, 0), del(0, 1), ins(0, 'x', 1))
	s.texts("xb", "xb", "xb")
}
