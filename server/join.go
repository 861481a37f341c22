package server

import (
	"slices"

	"nightjar/api"
	"nightjar/board"
	"nightjar/channel"
	"nightjar/cookie"
	"nightjar/detect"
	"nightjar/health"
	"nightjar/roster"
	"nightjar/session"
	"nightjar/tag"
	"nightjar/wire"
)

// answer is p to an address.
func answer(to int, p api.Packet) []api.Out {
	b, err := wire.Encode(p)
	if err != api.OK {
		return nil
	}
	return []api.Out{{To: to, Bytes: b}}
}

// refuse is an error to an address.
func refuse(to, nonce int, code api.Errno) []api.Out {
	return answer(to, api.Packet{Kind: api.KindError, Nonce: nonce, Op: int(code)})
}

// accept tells a session to whom it is.
func accept(one api.Session) []api.Out {
	return answer(one.Addr, api.Packet{Kind: api.KindAccept, Session: one.ID, Nonce: one.Nonce, Secret: one.Key})
}

// epoch is the epoch of now.
func (s *Server) epoch() int {
	return s.now / api.EpochLen
}

// hello answers with a cookie, and keeps nothing, so that nobody can fill the server by greeting.
func (s *Server) hello(from int, p api.Packet) []api.Out {
	epoch := s.epoch()
	secret := cookie.Mint(s.secret, from, p.Nonce, epoch)
	return answer(from, api.Packet{Kind: api.KindCookie, Nonce: p.Nonce, Epoch: epoch, Secret: secret})
}

// connect opens a session by a cookie.
func (s *Server) connect(from int, p api.Packet) []api.Out {
	code := cookie.Check(s.secret, from, p.Nonce, p.Epoch, s.epoch(), p.Secret)
	if code != api.OK {
		return refuse(from, p.Nonce, code)
	}
	same := func(x api.Session) bool { return x.User == p.User && x.Addr == from && x.Nonce == p.Nonce }
	if i := slices.IndexFunc(s.sessions, same); i >= 0 {
		if used(s.sessions[i]) {
			return refuse(from, p.Nonce, api.ErrState)
		}
		return accept(s.sessions[i])
	}
	one := s.fresh(from, p)
	sessions, err := session.Open(s.sessions, one)
	if err != api.OK {
		return refuse(from, p.Nonce, api.ErrFull)
	}
	s.sessions = sessions
	s.opened++
	s.wind(one)
	s.refresh(one.User)
	for _, target := range roster.Targets(s.rels, one.User) {
		if board.Note(s.board, target).Version > 0 {
			s.add([]int{one.ID}, target)
		}
	}
	return accept(one)
}

// fresh is the next session, of whom p tells; beyond the last ID it does not fit.
func (s *Server) fresh(from int, p api.Packet) api.Session {
	id := s.opened + 1
	return api.Session{
		ID:     id,
		User:   p.User,
		Addr:   from,
		Nonce:  p.Nonce,
		Key:    tag.Key(s.secret, id, p.Nonce),
		Status: api.First,
		Beats:  detect.Start(s.now),
		Health: health.Start(s.now),
		Chan:   channel.Start(),
	}
}
