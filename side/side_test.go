package side

import (
	"slices"
	"testing"

	"moot/api"
)

func checkNext(t *testing.T, next func() (Message, bool), want ...Message) {
	t.Helper()
	for i, w := range want {
		if m, ok := next(); !ok || m != w {
			t.Errorf("P5: message %d is %+v, %t, want %+v", i, m, ok, w)
		}
	}
	if m, ok := next(); ok || m != (Message{}) {
		t.Errorf("P5: behind the last message there is %+v, %t", m, ok)
	}
}

func insert(at, site int) api.Op { return api.Op{Kind: api.Insert, At: at, Byte: 'x', Site: site} }

// A message tells what was sent and what came ahead of it; the client from which an op came is sent nothing, with its own Site.
func TestMessages(t *testing.T) {
	s := NewServer(3, "abc")
	c := NewClient(2, "abc")
	s.Come(1, Message{op: insert(3, 1)})
	s.Come(0, Message{op: insert(0, 0)})
	checkNext(t, func() (Message, bool) { return s.Next(1) },
		Message{op: api.Op{Site: 1}, came: 1},
		Message{op: insert(0, 0), sent: 1, came: 1})
	c.Type(insert(1, 0))
	m, _ := s.Next(2)
	c.Come(m)
	c.Type(insert(1, 0))
	first, _ := c.Next()
	if want := (Message{op: insert(1, 2)}); first != want {
		t.Errorf("P5: the first message is %+v, want %+v", first, want)
	}
	s.Come(2, first)
	checkNext(t, c.Next, Message{op: insert(1, 2), sent: 1, came: 1})
	checkNext(t, func() (Message, bool) { return s.Next(2) },
		Message{op: insert(0, 0), sent: 1},
		Message{op: api.Op{Site: 2}, sent: 2, came: 1})
	checkNext(t, func() (Message, bool) { return s.Next(0) },
		Message{op: insert(3, 1)},
		Message{op: api.Op{Site: 0}, sent: 1, came: 1},
		Message{op: insert(2, 2), sent: 2, came: 1})
	if s.Text() != "xaxbcx" {
		t.Errorf("P5: the server has %q", s.Text())
	}
}

// What was done is told from when the ranging begins, not from when Done was called.
func TestDone(t *testing.T) {
	s := NewServer(2, "")
	told := s.Done()
	s.Come(1, Message{op: insert(0, 1)})
	s.Come(0, Message{op: insert(0, 0)})
	n := 0
	for range told {
		n++
		s.Come(1, Message{op: insert(0, 1), sent: n, came: 1})
	}
	if n != 2 {
		t.Errorf("P7: %d ops were told, want 2", n)
	}
	want := []api.Op{insert(0, 1), insert(0, 0), insert(1, 1), insert(1, 1)}
	if l := slices.Collect(told); !slices.Equal(l, want) {
		t.Errorf("P7: %+v were told, want %+v", l, want)
	}
}
