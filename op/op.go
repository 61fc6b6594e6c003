// Package op: single ops, what they do with a text, and how two of them are turned.
package op

import (
	"slices"

	"moot/api"
)

const (
	maxSite = api.MaxClients - 1
	maxByte = 255
)

// Right tells whether o is an op, with an At that a caller may give.
func Right(o api.Op) bool {
	if !within(o.Site, maxSite) {
		return false
	}
	switch o.Kind {
	case api.Nothing:
		return o.At == 0 && o.Byte == 0
	case api.Insert:
		return within(o.At, api.MaxAt) && within(o.Byte, maxByte)
	case api.Delete:
		return within(o.At, api.MaxAt) && o.Byte == 0
	}
	return false
}

func within(n, most int) bool { return 0 <= n && n <= most }

// Fits tells whether o, an op, can be done on a text of n bytes.
func Fits(n int, o api.Op) bool {
	switch o.Kind {
	case api.Insert:
		return o.At <= n
	case api.Delete:
		return o.At < n
	}
	return true
}

// Do answers the text behind o, which must fit it.
func Do(text string, o api.Op) string {
	// Bytes, not a sum of pieces: a piece would share the memory of the text that came in.
	b := []byte(text)
	switch o.Kind {
	case api.Insert:
		b = slices.Insert(b, o.At, byte(o.Byte))
	case api.Delete:
		b = slices.Delete(b, o.At, o.At+1)
	}
	return string(b)
}
