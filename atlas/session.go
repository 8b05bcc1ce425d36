package atlas

import (
	"atlas/api"
	"atlas/request"
	"atlas/steps"
)

// A session's request that is worked at has left the channel, from which nothing
// can be looked at without being taken; it counts as one of the queue until it is answered.
type session struct {
	queue   chan string
	next    steps.Step // of the request that is worked at; nil, if there is none
	answers []string
}

func isSession(n int) bool {
	return 0 <= n && n < api.Sessions
}

func newSession() session {
	return session{queue: make(chan string, api.MaxQueue)}
}

func (s *session) waiting() int {
	if s.next != nil {
		return len(s.queue) + 1
	}
	return len(s.queue)
}

// pick tells whether a step was done.
func (s *session) pick(m *steps.Map) bool {
	if s.next == nil && !s.begin() {
		return false
	}
	result := s.next(m)
	if result.Blocked {
		return false
	}
	s.next = result.Next
	if s.next == nil {
		s.answers = append(s.answers, result.Answer)
	}
	return true
}

// begin tells whether there is a request to be worked at.
func (s *session) begin() bool {
	select {
	case text := <-s.queue:
		s.next = steps.First(request.Read(text))
		return true
	default:
		return false
	}
}

// tell gives the answers away: they are the caller's.
func (s *session) tell() []string {
	answers := s.answers
	s.answers = nil
	return answers
}
