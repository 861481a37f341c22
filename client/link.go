package client

import (
	"nightjar/api"
	"nightjar/recv"
	"nightjar/tag"
	"nightjar/wire"
)

// link is what a client has of a server: a session, and what was sent and came by it.
type link struct {
	session int
	key     [16]byte
	beats   int // how often it beat
	ordered int // the number of the last order that was answered
	beatAt  int
	orderAt int
	recv    api.Recv
}

// signed is the bytes of p, of the session and signed; none, if p can't be.
func (l *link) signed(p api.Packet) [][]byte {
	p.Session = l.session
	p, _ = tag.Sign(l.key, p)
	b, err := wire.Encode(p)
	if err != api.OK {
		return nil
	}
	return [][]byte{b}
}

// beat sends a beat, if it is time.
func (l *link) beat(tick int) [][]byte {
	if tick < l.beatAt {
		return nil
	}
	l.beats++
	l.beatAt = tick + api.BeatEvery
	return l.signed(api.Packet{Kind: api.KindBeat, Seq: l.beats})
}

// order sends the first of the orders, if there is one, and it is time.
func (l *link) order(tick int, orders []api.Order) [][]byte {
	if len(orders) == 0 || tick < l.orderAt {
		return nil
	}
	l.orderAt = tick + api.RetryEvery
	o := orders[0]
	return l.signed(api.Packet{Kind: o.Kind, Seq: l.ordered + 1, Status: o.Status, Op: o.Op, User: o.User})
}

// take is the notes that are in order now that i came.
func (l *link) take(i api.Item) []api.Note {
	w, notes := recv.Take(l.recv, i)
	l.recv = w
	return notes
}

// ack acknowledges what came.
func (l *link) ack() [][]byte {
	ack, sack := recv.Ack(l.recv)
	return l.signed(api.Packet{Kind: api.KindAck, Ack: ack, Sack: sack})
}
