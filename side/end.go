// Package side: the two sides of a moot, its clients and its server, and the messages that go between them.
package side

import (
	"slices"

	"moot/api"
	"moot/op"
)

// A Message is an op on its way to the other side, with what its sender had sent and got ahead of it.
type Message struct {
	op         api.Op
	sent, came int
}

// end: what a side keeps of one way between a client and the server. The client and the server have an end of it each.
type end struct {
	sent, came int
	open       []api.Op
	queue      []Message // to the other side
}

func (e *end) send(o api.Op) {
	e.queue = append(e.queue, Message{op: o, sent: e.sent, came: e.came})
	e.sent++
	e.open = append(e.open, o)
}

// meet takes in a message of the other side, and answers its op as it is to be done here.
func (e *end) meet(m Message) api.Op {
	e.close(m.came)
	o := m.op
	for i, mine := range e.open {
		o, e.open[i] = op.Turn(o, mine)
	}
	e.came++
	return o
}

// close takes from the open ops those among the first known ones that were sent.
func (e *end) close(known int) {
	closed := e.sent - len(e.open)
	e.open = e.open[known-closed:]
}

// Next takes the first message from the queue, if there is one.
func (e *end) Next() (Message, bool) {
	if len(e.queue) == 0 {
		return Message{}, false
	}
	m := e.queue[0]
	e.queue = e.queue[1:]
	return m, true
}

// Waiting tells how many messages are in the queue.
func (e *end) Waiting() int { return len(e.queue) }

// Open tells the open ops, in a list of its own.
func (e *end) Open() []api.Op { return slices.Clone(e.open) }
