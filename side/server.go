package side

import (
	"iter"

	"moot/api"
	"moot/op"
)

// A Server has a text, what it did to come to it, and a seat for each client.
type Server struct {
	text  string
	done  []api.Op
	seats []seat
}

// seat: the server's end of the way to the client of that number.
type seat struct {
	end
	site int
}

// NewServer makes a server of so many clients.
func NewServer(clients int, text string) *Server {
	s := &Server{text: text}
	for i := range clients {
		s.seats = append(s.seats, seat{site: i})
	}
	return s
}

// Text tells the server's text.
func (s *Server) Text() string { return s.text }

// Done tells, from the first one on, the ops that were done till the ranging begins.
func (s *Server) Done() iter.Seq[api.Op] {
	return func(yield func(o api.Op) bool) {
		// The loop keeps to the list as it finds it here: what is done meanwhile stands behind the end of it.
		for _, o := range s.done {
			if !yield(o) {
				return
			}
		}
	}
}

// Waiting tells how many messages wait for a client.
func (s *Server) Waiting(client int) int { return s.seats[client].Waiting() }

// Next takes the first message for a client, if there is one.
func (s *Server) Next(client int) (Message, bool) { return s.seats[client].Next() }

// Come lets a message of a client come to the server, which tells all clients of it.
func (s *Server) Come(client int, m Message) {
	o := s.seats[client].meet(m)
	s.text = op.Do(s.text, o)
	s.done = append(s.done, o)
	for i := range s.seats {
		s.seats[i].tell(client, o)
	}
}

// tell sends what a client did to the client of the seat.
func (t *seat) tell(client int, o api.Op) {
	if client == t.site {
		// It has done its own op already, and waits only to hear that it came.
		o = op.Nothing(t.site)
	}
	t.send(o)
}
