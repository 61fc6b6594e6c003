// Package moot: one text, written by many at once: see DOC.md.
package moot

import (
	"moot/api"
	"moot/op"
)

// Moot has clients and a server.
type Moot struct{}

// Right tells whether an op is right (P3).
func Right(o api.Op) api.Errno {
	if !op.Right(o) {
		return api.ErrOp
	}
	return api.OK
}

// Apply does an op on a text (P3).
func Apply(text string, o api.Op) (string, api.Errno) {
	if !op.Right(o) || !op.Fits(len(text), o) {
		return "", api.ErrOp
	}
	return op.Do(text, o), api.OK
}

// Turn turns two ops (P3).
func Turn(a api.Op, b api.Op) (api.Op, api.Op, api.Errno) {
	if !op.Right(a) || !op.Right(b) {
		return api.Op{}, api.Op{}, api.ErrOp
	}
	x, y := op.Turn(a, b)
	return x, y, api.OK
}

// New makes a moot (P4).
func New(clients int, text string) (*Moot, api.Errno) { return nil, api.OK }

// Type lets a client type (P4).
func (p *Moot) Type(client int, o api.Op) api.Errno { return api.OK }

// Up lets a client's message come to the server (P5).
func (p *Moot) Up(client int) api.Errno { return api.OK }

// Down lets the server's message come to a client (P5).
func (p *Moot) Down(client int) api.Errno { return api.OK }

// Text tells a client's text, or the server's (P6).
func (p *Moot) Text(client int) (string, api.Errno) { return "", api.OK }

// Look tells how a client stands (P6).
func (p *Moot) Look(client int) (api.Look, api.Errno) { return api.Look{}, api.OK }

// History tells what the server did (P7).
func (p *Moot) History() func(yield func(o api.Op) bool) {
	return func(yield func(o api.Op) bool) {}
}
