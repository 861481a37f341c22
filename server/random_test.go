package server_test

import (
	"math/rand"
	"slices"
	"testing"

	"nightjar/api"
	"nightjar/board"
	"nightjar/fanout"
	"nightjar/roster"
	"nightjar/session"
	"nightjar/tag"
	"nightjar/timer"
	"nightjar/wire"
)

// crowd is a server among clients that do anything, and some that only pretend.
type crowd struct {
	rig
	rnd     *rand.Rand
	members []*member
	heard   map[int]int // when each session was heard of last
	sent    int         // how many notes told of a user
}

func (c *crowd) anyone() *member {
	if len(c.members) == 0 {
		return &member{id: 1}
	}
	return c.members[c.rnd.Intn(len(c.members))]
}

// enter opens a session, or is refused.
func (c *crowd) enter() {
	addr := c.rnd.Intn(4)
	p := c.connect(addr, 1+c.rnd.Intn(6), c.rnd.Intn(3))
	got := c.step(addr, p)
	if got[0].p.Kind != api.KindAccept {
		return
	}
	id := got[0].p.Session
	if _, ok := c.heard[id]; !ok {
		c.heard[id] = c.s.Now()
		c.members = append(c.members, &member{addr: addr, id: id, key: got[0].p.Secret})
	}
}

// packet is one that a client may send.
func (c *crowd) packet(m *member) api.Packet {
	switch c.rnd.Intn(9) {
	case 0, 1, 2:
		return api.Packet{Kind: api.KindBeat, Seq: m.seq + c.rnd.Intn(3)}
	case 3:
		return api.Packet{Kind: api.KindStatus, Seq: m.op + c.rnd.Intn(3), Status: 1 + c.rnd.Intn(3)}
	case 4, 5:
		return api.Packet{Kind: api.KindRoster, Seq: m.op + 1, Op: []int{1, 1, 2, 3, 3, 3, 4, 5, 6, 7}[c.rnd.Intn(10)], User: 1 + c.rnd.Intn(6)}
	case 6:
		if c.rnd.Intn(8) == 0 {
			return api.Packet{Kind: api.KindBye, Seq: m.op + 1}
		}
	}
	return api.Packet{Kind: api.KindAck, Ack: c.rnd.Intn(30), Sack: c.rnd.Intn(256)}
}

// says lets a client send.
func (c *crowd) says(m *member) {
	p := c.packet(m)
	if p.Kind != api.KindAck && p.Seq == 0 {
		return
	}
	before, there := session.Find(c.s.Sessions(), m.id)
	c.step(m.addr, c.sign(m, p))
	after, stays := session.Find(c.s.Sessions(), m.id)
	if there && stays && p.Kind == api.KindBeat && len(after.Beats) > 0 && !slices.Equal(after.Beats, before.Beats) {
		m.seq = p.Seq
		c.heard[m.id] = c.s.Now()
	}
	if there && (!stays || after.OpSeq != before.OpSeq) {
		m.op = p.Seq
	}
}

// pretends sends what no key signed, or from elsewhere, or what is no packet.
func (c *crowd) pretends(m *member) {
	p := c.packet(m)
	p.Seq = max(p.Seq, 1)
	if p.Kind == api.KindAck {
		p.Seq = 0
	}
	signed := c.sign(m, p)
	from := m.addr
	switch c.rnd.Intn(5) {
	case 0:
		from++
	case 1:
		signed.Tag[c.rnd.Intn(8)] ^= 1 << c.rnd.Intn(8)
	case 2:
		signed = c.sign(&member{id: m.id, key: tag.Key([]byte("another"), m.id, 1)}, p)
	case 3:
		signed = c.connect(from, 1+c.rnd.Intn(6), 77)
		signed.Secret[c.rnd.Intn(16)]++
	case 4:
		signed = api.Packet{Kind: api.KindHello, Nonce: c.rnd.Intn(9)}
	}
	b, _ := wire.Encode(signed)
	if c.rnd.Intn(9) == 0 {
		b = b[:c.rnd.Intn(len(b))]
	}
	c.unchanged("one that pretends", func() { c.s.Step(from, b) })
}

// goesOn lets time go on, and looks at what is sent.
func (c *crowd) goesOn() {
	c.t.Helper()
	got := c.tick()
	if len(got) > api.Budget {
		c.t.Fatalf("%d notes are sent", len(got))
	}
	for _, x := range got {
		one, ok := session.Find(c.s.Sessions(), x.p.Session)
		if !ok || one.Addr != x.to || !tag.Good(one.Key, x.p) || x.p.Kind != api.KindNotify {
			c.t.Fatalf("sent: %+v", x)
		}
		if x.p.User != 0 && roster.State(c.s.Rels(), one.User, x.p.User) != api.RelMay {
			c.t.Fatalf("%d is told of %d, and may not watch", one.User, x.p.User)
		}
		if x.p.User != 0 {
			c.sent++
		}
	}
	for _, one := range c.s.Sessions() {
		if c.s.Now()-c.heard[one.ID] > 49 {
			c.t.Fatalf("%d is there for %d ticks", one.ID, c.s.Now()-c.heard[one.ID])
		}
	}
}

// right looks at all tables.
func (c *crowd) right() {
	c.t.Helper()
	x := c.state()
	if !session.Right(x.sessions) || !roster.Right(x.rels) || !fanout.Right(x.fan) || !timer.Right(x.timers) || len(x.timers) != len(x.sessions) {
		c.t.Fatalf("not right: %+v", x)
	}
	for _, one := range x.sessions {
		if at, ok := timer.At(x.timers, one.ID); !ok || at <= x.now {
			c.t.Fatalf("%d is due at %d", one.ID, at)
		}
	}
	for _, m := range x.fan.Marks {
		one, ok := session.Find(x.sessions, m.Session)
		if !ok || roster.State(x.rels, one.User, m.User) != api.RelMay {
			c.t.Fatalf("a mark of %d about %d", m.Session, m.User)
		}
	}
	for user := 1; user <= api.MaxUser; user++ {
		status, count := board.Fold(session.Statuses(x.sessions, user)...)
		if e := x.board[user]; e.Status != status || e.Count != count {
			c.t.Fatalf("the entry of %d is %+v", user, e)
		}
	}
}

func TestP21_5_Crowd(t *testing.T) {
	told := 0
	for seed := range 20 {
		c := &crowd{rig: start(t), rnd: rand.New(rand.NewSource(int64(seed))), heard: map[int]int{}}
		for range 1500 {
			switch c.rnd.Intn(10) {
			case 0, 1:
				c.goesOn()
			case 2:
				c.enter()
			case 3, 4:
				c.pretends(c.anyone())
			default:
				c.says(c.anyone())
			}
			c.right()
			if len(c.members) > 24 {
				c.members = c.members[8:]
			}
		}
		told += c.sent
	}
	if told < 300 {
		t.Errorf("only %d notes were sent", told)
	}
}

func TestP21_5_GoneWithin49(t *testing.T) {
	for _, gap := range []int{1, 4, 12, 30, 39} {
		r := start(t)
		m := r.join(1, 1, 1)
		for range 10 {
			r.ticks(gap)
			if _, ok := session.Find(r.s.Sessions(), m.id); !ok {
				break
			}
			r.beat(m)
		}
		r.ticks(49)
		if len(r.s.Sessions()) != 0 || len(r.s.Timers()) != 0 {
			t.Errorf("beating each %d ticks: %+v", gap, r.state())
		}
		if again := r.join(1, 1, 1); again.id == m.id {
			t.Error("whoever returns has the same session")
		}
	}
}
