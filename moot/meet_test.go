package moot_test

import (
	"testing"

	"moot/api"
	"moot/moot"
)

// talk: a moot, with what its words make of it: how many were typed, and what the server had behind each op.
type talk struct {
	session
	clients int
	typings [4]int
	heard   [4]int
	from    []int    // of each op that the server did: its client
	behind  []string // the server's text at first, and behind each op
}

func newTalk(t *testing.T, clients int, text string) *talk {
	return &talk{session: begin(t, clients, text), clients: clients, behind: []string{text}}
}

func (k *talk) doType(c int, o api.Op) api.Errno {
	e := k.Type(c, o)
	if e == api.OK {
		k.typings[c]++
	}
	return e
}

func (k *talk) doUp(c int) bool {
	if k.Up(c) != api.OK {
		return false
	}
	text, _ := k.Text(-1)
	k.from = append(k.from, c)
	k.behind = append(k.behind, text)
	return true
}

func (k *talk) doDown(c int) bool {
	if k.Down(c) != api.OK {
		return false
	}
	k.heard[c]++
	return true
}

func count(l []int, n int) int {
	sum := 0
	for _, x := range l {
		if x == n {
			sum++
		}
	}
	return sum
}

// check holds a client against the words: what it has heard of, and then its open ops, make its text.
func (k *talk) check(c int) {
	k.t.Helper()
	l, _ := k.Look(c)
	up := k.typings[c] - count(k.from, c)
	down := len(k.from) - k.heard[c]
	open := k.typings[c] - count(k.from[:k.heard[c]], c)
	if l.Up != up || l.Down != down || len(l.Open) != open {
		k.t.Fatalf("P6: Look(%d) = %+v, want %d up, %d down, %d open", c, l, up, down, open)
	}
	text := k.behind[k.heard[c]]
	for _, o := range l.Open {
		s, e := moot.Apply(text, o)
		if e != api.OK || o.Site != c {
			k.t.Fatalf("P6: the open op %+v of client %d does not fit %q", o, c, text)
		}
		text = s
	}
	own, _ := k.Text(c)
	if own != text {
		k.t.Fatalf("P6: client %d has %q, what it heard and its open ops make %q", c, own, text)
	}
	if server, _ := k.Text(-1); up == 0 && down == 0 && own != server {
		k.t.Fatalf("P8: nothing is on its way, client %d has %q, the server %q", c, own, server)
	}
}

func (k *talk) checkAll() {
	k.t.Helper()
	for c := range k.clients {
		k.check(c)
	}
	k.checkHistory()
}

// checkHistory holds each op that is told against the server's text ahead of it and behind it.
func (k *talk) checkHistory() {
	k.t.Helper()
	told := 0
	for o := range k.History() {
		if told == len(k.from) {
			k.t.Fatalf("P7: behind all %d ops History tells %+v", told, o)
		}
		text, e := moot.Apply(k.behind[told], o)
		if e != api.OK || text != k.behind[told+1] || o.Site != k.from[told] {
			k.t.Fatalf("P7, P8: op %d, of client %d, is told as %+v: it makes %q of %q, the server had %q",
				told, k.from[told], o, text, k.behind[told], k.behind[told+1])
		}
		told++
	}
	if told != len(k.from) {
		k.t.Fatalf("P7: %d ops are told, the server did %d", told, len(k.from))
	}
}

// finish lets all come that is on its way.
func (k *talk) finish() {
	k.t.Helper()
	for c := range k.clients {
		for k.doUp(c) {
			k.check(c)
		}
	}
	server, _ := k.Text(-1)
	for c := range k.clients {
		for k.doDown(c) {
			k.check(c)
		}
		if text, _ := k.Text(c); text != server {
			k.t.Fatalf("P8: all came, client %d has %q, the server %q", c, text, server)
		}
	}
	k.checkHistory()
}

// step does one of eight things, four for each of two clients.
func (k *talk) step(n int) {
	c := n % 2
	switch n / 2 {
	case 0:
		k.doType(c, ins(1, 'x'+c, 0))
	case 1:
		k.doType(c, del(0, 0))
	case 2:
		k.doUp(c)
	case 3:
		k.doDown(c)
	}
}

// All orders of a few steps.
func TestEveryOrder(t *testing.T) {
	const steps = 5
	for script := range 1 << (3 * steps) {
		k := newTalk(t, 2, "ab")
		for i := range steps {
			k.step(script >> (3 * i) & 7)
		}
		k.checkAll()
		k.finish()
	}
}

// numbers: some that follow from the first, so that every run is the same.
type numbers struct{ last int }

func (n *numbers) below(bound int) int {
	n.last = n.last * 48271 % 2147483647
	return n.last / 16 % bound
}

func (k *talk) typeSome(c int, n *numbers) {
	text, _ := k.Text(c)
	o := ins(n.below(len(text)+1), n.below(256), n.below(4))
	if len(text) > 0 && n.below(2) == 0 {
		o = del(n.below(len(text)), n.below(4))
	}
	want := api.OK
	if l, _ := k.Look(c); o.Kind == api.Insert && len(text) >= 60 {
		want = api.ErrFull
	} else if len(l.Open) == 20 {
		want = api.ErrBusy
	}
	k.answers("P4: Type", k.doType(c, o), want)
}

func TestLongTalks(t *testing.T) {
	n := &numbers{last: 7}
	for round := range 120 {
		k := newTalk(t, 1+round%4, "a text to begin with, that is not short, and has room"[:n.below(50)])
		for range 200 {
			c := n.below(k.clients)
			switch x := n.below(10); {
			case x < 5:
				k.typeSome(c, n)
			case x < 7+round%2:
				k.doUp(c)
			default:
				k.doDown(c)
			}
			k.check(c)
		}
		k.checkAll()
		k.finish()
	}
}

// A client that hears nothing for long comes to the same text at last.
func TestLateListener(t *testing.T) {
	n := &numbers{last: 11}
	k := newTalk(t, 3, "abc")
	for range 20 {
		k.typeSome(2, n)
	}
	for range 2000 {
		c := n.below(2)
		k.typeSome(c, n)
		k.doUp(c)
		k.doDown(0)
		k.doDown(1)
	}
	k.checkAll()
	k.finish()
}
