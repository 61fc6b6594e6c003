package side

import (
	"moot/api"
	"moot/op"
)

// A Client has a text to type in, and its end of the way to the server.
type Client struct {
	end
	site int
	text string
}

// NewClient makes the client of that number.
func NewClient(site int, text string) *Client { return &Client{site: site, text: text} }

// Text tells the client's text.
func (c *Client) Text() string { return c.text }

// Type does an op on the client's text and sends it, unless it may not be typed.
func (c *Client) Type(o api.Op) api.Errno {
	if e := c.mayType(o); e != api.OK {
		return e
	}
	o.Site = c.site
	c.text = op.Do(c.text, o)
	c.send(o)
	return api.OK
}

func (c *Client) mayType(o api.Op) api.Errno {
	switch {
	case !op.Right(o) || o.Kind == api.Nothing || !op.Fits(len(c.text), o):
		return api.ErrOp
	case o.Kind == api.Insert && len(c.text) >= api.MaxText:
		return api.ErrFull
	case len(c.open) >= api.MaxOpen:
		return api.ErrBusy
	}
	return api.OK
}

// Come lets a message of the server come to the client.
func (c *Client) Come(m Message) { c.text = op.Do(c.text, c.meet(m)) }
