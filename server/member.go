package server

import (
	"nightjar/api"
	"nightjar/channel"
	"nightjar/detect"
	"nightjar/fanout"
	"nightjar/health"
	"nightjar/roster"
	"nightjar/session"
	"nightjar/tag"
)

// signed is p to a session, by its key.
func signed(one api.Session, p api.Packet) []api.Out {
	p, ok := tag.Sign(one.Key, p)
	if !ok {
		return nil
	}
	return answer(one.Addr, p)
}

// member is the session that sent p, or what is wrong with it.
func (s *Server) member(from int, p api.Packet) (api.Session, api.Errno) {
	one, ok := session.Find(s.sessions, p.Session)
	if !ok {
		return api.Session{}, api.ErrGone
	}
	if one.Addr != from || !tag.Good(one.Key, p) {
		return api.Session{}, api.ErrTag
	}
	return one, api.OK
}

// beat notes that one is alive.
func (s *Server) beat(one api.Session, p api.Packet) []api.Out {
	beats, ok := detect.Beat(one.Beats, p.Seq, s.now)
	if !ok {
		return nil
	}
	one.Beats = beats
	one.Health = health.Beat(one.Health, s.now)
	s.put(one)
	s.wind(one)
	return nil
}

// ack notes which notes came.
func (s *Server) ack(one api.Session, p api.Packet) []api.Out {
	one.Chan = channel.Ack(one.Chan, p.Ack, p.Sack, s.now)
	s.put(one)
	return nil
}

// order does what is ordered next; the last order is answered again, for its reply may be lost.
func (s *Server) order(one api.Session, p api.Packet) []api.Out {
	if p.Seq == one.OpSeq {
		return reply(one)
	}
	if p.Seq != one.OpSeq+1 {
		return nil
	}
	one.OpSeq = p.Seq
	one.OpCode = int(api.OK)
	switch p.Kind {
	case api.KindStatus:
		one.Status = p.Status
		s.put(one)
		s.refresh(one.User)
	case api.KindBye:
		s.end(one)
	case api.KindRoster:
		rels, code := roster.Do(s.rels, p.Op, one.User, p.User)
		one.OpCode = int(code)
		s.put(one)
		if code == api.OK {
			s.stand(rels, one.User, p.User)
		}
	}
	return reply(one)
}

// reply tells the code of the last order.
func reply(one api.Session) []api.Out {
	return signed(one, api.Packet{Kind: api.KindReply, Session: one.ID, Seq: one.OpSeq, Op: one.OpCode})
}

// stand takes the row that an op between two users makes.
func (s *Server) stand(rels []api.Rel, who, peer int) {
	before := s.rels
	s.rels = rels
	// Which of the two the watcher is hangs on the op; it leaves the other standing as it was, so that both can be asked.
	s.follow(before, who, peer)
	s.follow(before, peer, who)
}

// follow tells a watcher of a target from now on, or no longer, as its standing changed.
func (s *Server) follow(before []api.Rel, watcher, target int) {
	could := roster.State(before, watcher, target) == api.RelMay
	may := roster.State(s.rels, watcher, target) == api.RelMay
	if may && !could {
		s.add(session.Of(s.sessions, watcher), target)
	}
	if could && !may {
		s.silence(watcher, target)
	}
}

// silence takes back all that the watcher's sessions are to be told of the target.
func (s *Server) silence(watcher, target int) {
	for _, id := range session.Of(s.sessions, watcher) {
		s.fan, _ = fanout.Strike(s.fan, id, target)
		one, _ := session.Find(s.sessions, id)
		one.Chan = channel.Void(one.Chan, target)
		s.put(one)
	}
}
