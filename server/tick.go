package server

import (
	"nightjar/api"
	"nightjar/board"
	"nightjar/channel"
	"nightjar/detect"
	"nightjar/fanout"
	"nightjar/health"
	"nightjar/session"
	"nightjar/timer"
)

// Tick lets time go on, and tells what is sent then.
func (s *Server) Tick() []api.Out {
	s.now = min(s.now+1, api.Most)
	s.look()
	again, left := s.resend(api.Budget)
	return append(again, s.tell(left)...)
}

// look asks how those are whose time has come.
func (s *Server) look() {
	timers, due := timer.Due(s.timers, s.now)
	s.timers = timers
	for _, id := range due {
		one, _ := session.Find(s.sessions, id)
		one.Health = health.Step(one.Health, detect.Deadline(one.Beats), s.now)
		if one.Health.State == api.Offline {
			s.end(one)
			continue
		}
		s.put(one)
		s.wind(one)
	}
}

// resend sends again what was not acknowledged in time, and tells how many may be sent behind it.
func (s *Server) resend(left int) ([]api.Out, int) {
	var outs []api.Out
	for _, one := range session.Copy(s.sessions) {
		c, flights := channel.Tick(one.Chan, s.now, left)
		one.Chan = c
		s.put(one)
		left -= len(flights)
		for _, f := range flights {
			outs = append(outs, notify(one, f)...)
		}
	}
	return outs, left
}

// tell sends notes to those whose turn it is, so many at most.
func (s *Server) tell(left int) []api.Out {
	var outs []api.Out
sending:
	for ; left > 0; left-- {
		fan, m, ok := fanout.Next(s.fan, s.ready()...)
		if !ok {
			break sending
		}
		s.fan = fan
		one, _ := session.Find(s.sessions, m.Session)
		c, f, _ := channel.Push(one.Chan, board.Note(s.board, m.User), s.now)
		one.Chan = c
		s.put(one)
		outs = append(outs, notify(one, f)...)
	}
	return outs
}

// ready is the sessions that are used, and have room for a note.
func (s *Server) ready() []int {
	var ids []int
	for _, one := range s.sessions {
		if used(one) && channel.Room(one.Chan) != 0 {
			ids = append(ids, one.ID)
		}
	}
	return ids
}

// notify sends a flight to a session.
func notify(one api.Session, f api.Flight) []api.Out {
	n := f.Note
	return signed(one, api.Packet{
		Kind:    api.KindNotify,
		Session: one.ID,
		Seq:     f.Seq,
		User:    n.User,
		Version: n.Version,
		Status:  n.Status,
		Count:   n.Count,
	})
}
