// Package moot: one text, written by many at once: see DOC.md.
package moot

import (
	"strings"

	"moot/api"
	"moot/op"
	"moot/side"
)

// server: the number by which Text is asked for the server's.
const server = -1

// Moot has clients and a server.
type Moot struct {
	server  *side.Server
	clients []*side.Client
}

// Right tells whether an op is right (P3).
func Right(o api.Op) api.Errno {
	if !op.Right(o) {
		return api.ErrOp
	}
	return api.OK
}

// Apply does an op on a text (P3).
func Apply(text string, o api.Op) (string, api.Errno) {
	if !op.Right(o) || !op.Fits(len(text), o) {
		return "", api.ErrOp
	}
	return op.Do(text, o), api.OK
}

// Turn turns two ops (P3).
func Turn(a api.Op, b api.Op) (api.Op, api.Op, api.Errno) {
	if !op.Right(a) || !op.Right(b) {
		return api.Op{}, api.Op{}, api.ErrOp
	}
	x, y := op.Turn(a, b)
	return x, y, api.OK
}

// New makes a moot (P4).
func New(clients int, text string) (*Moot, api.Errno) {
	if clients < 1 || clients > api.MaxClients {
		return nil, api.ErrArg
	}
	if len(text) > api.MaxText {
		return nil, api.ErrFull
	}
	// The caller's text may be a piece of a great one, which would be kept with it.
	text = strings.Clone(text)
	p := &Moot{server: side.NewServer(clients, text)}
	for i := range clients {
		p.clients = append(p.clients, side.NewClient(i, text))
	}
	return p, api.OK
}

// has tells whether there is such a client; where New gave no moot, there is none.
func (p *Moot) has(client int) bool {
	return p != nil && 0 <= client && client < len(p.clients)
}

// Type lets a client type (P4).
func (p *Moot) Type(client int, o api.Op) api.Errno {
	if !p.has(client) {
		return api.ErrArg
	}
	return p.clients[client].Type(o)
}

// Up lets a client's message come to the server (P5).
func (p *Moot) Up(client int) api.Errno {
	if !p.has(client) {
		return api.ErrArg
	}
	m, ok := p.clients[client].Next()
	if !ok {
		return api.ErrNone
	}
	p.server.Come(client, m)
	return api.OK
}

// Down lets the server's message come to a client (P5).
func (p *Moot) Down(client int) api.Errno {
	if !p.has(client) {
		return api.ErrArg
	}
	m, ok := p.server.Next(client)
	if !ok {
		return api.ErrNone
	}
	p.clients[client].Come(m)
	return api.OK
}

// Text tells a client's text, or the server's (P6).
func (p *Moot) Text(client int) (string, api.Errno) {
	if client == server && p != nil {
		return p.server.Text(), api.OK
	}
	if !p.has(client) {
		return "", api.ErrArg
	}
	return p.clients[client].Text(), api.OK
}

// Look tells how a client stands (P6).
func (p *Moot) Look(client int) (api.Look, api.Errno) {
	if !p.has(client) {
		return api.Look{}, api.ErrArg
	}
	c := p.clients[client]
	return api.Look{Up: c.Waiting(), Down: p.server.Waiting(client), Open: c.Open()}, api.OK
}

// History tells what the server did (P7).
func (p *Moot) History() func(yield func(o api.Op) bool) {
	return func(yield func(o api.Op) bool) {
		if p == nil {
			return
		}
		for o := range p.server.Done() {
			if !yield(o) {
				return
			}
		}
	}
}
