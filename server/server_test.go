package server_test

import (
	"slices"
	"testing"

	"nightjar/api"
	"nightjar/channel"
	"nightjar/cookie"
	"nightjar/fanout"
	"nightjar/probe"
	"nightjar/roster"
	"nightjar/server"
	"nightjar/session"
	"nightjar/tag"
	"nightjar/timer"
	"nightjar/wire"
)

var secret = []byte("a secret")

// rig is a server and what the tests ask of it.
type rig struct {
	t *testing.T
	s *server.Server
}

func start(t *testing.T) rig {
	return rig{t, server.New(secret)}
}

// member is what a client knows of its session.
type member struct {
	addr, id, seq, op int
	key               [16]byte
}

// told is a packet that is sent to an address.
type told struct {
	to int
	p  api.Packet
}

// state is all that a server has.
type state struct {
	now      int
	sessions []api.Session
	rels     []api.Rel
	board    api.Board
	fan      api.Fan
	timers   []api.Timer
}

func (r rig) state() state {
	return state{r.s.Now(), r.s.Sessions(), r.s.Rels(), r.s.Board(), r.s.Fan(), r.s.Timers()}
}

func same(a, b state) bool {
	return a.now == b.now && session.Same(a.sessions, b.sessions) && slices.Equal(a.rels, b.rels) &&
		a.board == b.board && fanout.Same(a.fan, b.fan) && slices.Equal(a.timers, b.timers)
}

// read takes apart what is sent.
func (r rig) read(outs []api.Out) []told {
	r.t.Helper()
	var l []told
	for _, o := range outs {
		p, err := wire.Decode(o.Bytes)
		if err != api.OK {
			r.t.Fatalf("sent is no packet: %v", o)
		}
		l = append(l, told{o.To, p})
	}
	return l
}

func (r rig) step(from int, p api.Packet) []told {
	r.t.Helper()
	b, err := wire.Encode(p)
	if err != api.OK {
		r.t.Fatalf("no packet: %+v", p)
	}
	return r.read(r.s.Step(from, b))
}

// expect holds what is sent against what should be.
func (r rig) expect(name string, got []told, want ...told) {
	r.t.Helper()
	if !slices.Equal(got, want) {
		r.t.Fatalf("%s: sent %+v, not %+v", name, got, want)
	}
}

func refusal(to, nonce int, code api.Errno) told {
	return told{to, api.Packet{Kind: api.KindError, Nonce: nonce, Op: int(code)}}
}

func (r rig) connect(addr, user, nonce int) api.Packet {
	epoch := r.s.Now() / 64
	return api.Packet{Kind: api.KindConnect, User: user, Nonce: nonce, Epoch: epoch, Secret: cookie.Mint(secret, addr, nonce, epoch)}
}

// join opens a session.
func (r rig) join(addr, user, nonce int) *member {
	r.t.Helper()
	got := r.step(addr, r.connect(addr, user, nonce))
	if len(got) != 1 || got[0].p.Kind != api.KindAccept {
		r.t.Fatalf("no accept: %+v", got)
	}
	return &member{addr: addr, id: got[0].p.Session, key: got[0].p.Secret}
}

// sign is p of a session, signed.
func (r rig) sign(m *member, p api.Packet) api.Packet {
	r.t.Helper()
	p.Session = m.id
	signed, ok := tag.Sign(m.key, p)
	if !ok {
		r.t.Fatalf("can't be signed: %+v", p)
	}
	return signed
}

func (r rig) beat(m *member) {
	r.t.Helper()
	m.seq++
	r.expect("a beat", r.step(m.addr, r.sign(m, api.Packet{Kind: api.KindBeat, Seq: m.seq})))
}

// order sends the next order, and tells the code.
func (r rig) order(m *member, p api.Packet) api.Errno {
	r.t.Helper()
	m.op++
	p.Seq = m.op
	got := r.step(m.addr, r.sign(m, p))
	if len(got) != 1 || got[0].p.Kind != api.KindReply || !tag.Good(m.key, got[0].p) {
		r.t.Fatalf("no reply: %+v", got)
	}
	r.expect("a reply", got, told{m.addr, r.sign(m, api.Packet{Kind: api.KindReply, Seq: m.op, Op: got[0].p.Op})})
	return api.Errno(got[0].p.Op)
}

func (r rig) roster(m *member, op, user int) api.Errno {
	r.t.Helper()
	return r.order(m, api.Packet{Kind: api.KindRoster, Op: op, User: user})
}

func (r rig) status(m *member, status int) {
	r.t.Helper()
	if code := r.order(m, api.Packet{Kind: api.KindStatus, Status: status}); code != api.OK {
		r.t.Fatalf("status: %d", code)
	}
}

// watch lets a's user watch b's.
func (r rig) watch(a, b *member, userA, userB int) {
	r.t.Helper()
	if r.roster(a, api.OpAsk, userB) != api.OK || r.roster(b, api.OpApprove, userA) != api.OK {
		r.t.Fatal("can't watch")
	}
}

func (r rig) tick() []told {
	r.t.Helper()
	return r.read(r.s.Tick())
}

func (r rig) ticks(n int) {
	r.t.Helper()
	for range n {
		r.tick()
	}
}

func (r rig) ack(m *member, ack, sack int) {
	r.t.Helper()
	r.expect("an ack", r.step(m.addr, r.sign(m, api.Packet{Kind: api.KindAck, Ack: ack, Sack: sack})))
}

func (r rig) find(m *member) api.Session {
	r.t.Helper()
	one, ok := session.Find(r.s.Sessions(), m.id)
	if !ok {
		r.t.Fatalf("no session %d", m.id)
	}
	return one
}

// note is a KindNotify to a session, signed.
func (r rig) note(m *member, seq, user, version, status, count int) told {
	r.t.Helper()
	return told{m.addr, r.sign(m, api.Packet{Kind: api.KindNotify, Seq: seq, User: user, Version: version, Status: status, Count: count})}
}

func (r rig) marks(name string, want ...api.Mark) {
	r.t.Helper()
	if got := r.s.Fan().Marks; !slices.Equal(got, want) {
		r.t.Fatalf("%s: the marks are %v, not %v", name, got, want)
	}
}

func (r rig) due(m *member, want int) {
	r.t.Helper()
	if at, ok := timer.At(r.s.Timers(), m.id); at != want || !ok {
		r.t.Fatalf("%d is due at %d, not %d", m.id, at, want)
	}
}

func (r rig) entry(user int, want api.Entry) {
	r.t.Helper()
	if got := r.s.Board()[user]; got != want {
		r.t.Fatalf("the entry of %d is %+v, not %+v", user, got, want)
	}
}

// unchanged says that an act changes nothing.
func (r rig) unchanged(name string, act func()) {
	r.t.Helper()
	before := r.state()
	if act(); !same(before, r.state()) {
		r.t.Fatalf("%s changes something: %+v, %+v", name, before, r.state())
	}
}

func TestP21_1_New(t *testing.T) {
	r := start(t)
	if !same(r.state(), state{}) {
		t.Errorf("new: %+v", r.state())
	}
	r.ticks(3)
	if r.s.Now() != 3 {
		t.Errorf("Now is %d", r.s.Now())
	}
	mine, kept := probe.Roomy(secret, 7)
	r = rig{t, server.New(mine)}
	mine[0]++
	r.join(5, 1, 9)
	if mine[0]--; !kept() {
		t.Error("the secret is changed")
	}
}

func TestP21_2_Nothing(t *testing.T) {
	r := start(t)
	r.ticks(5)
	m := r.join(5, 1, 9)
	hello, _ := wire.Encode(api.Packet{Kind: api.KindHello, Nonce: 1})
	r.unchanged("nothing", func() {
		for _, from := range []int{-1, 65536, api.MinInt, api.MaxInt} {
			r.expect("from nowhere", r.read(r.s.Step(from, hello)))
		}
		for _, b := range [][]byte{nil, {}, {0}, {1, 2}, hello[:4], append(slices.Clone(hello), 0), make([]byte, 100)} {
			r.expect("no packet", r.read(r.s.Step(5, b)))
		}
		for _, p := range []api.Packet{
			{Kind: api.KindCookie, Nonce: 9}, {Kind: api.KindAccept, Session: m.id, Nonce: 9}, {Kind: api.KindError, Nonce: 9, Op: 6},
			r.sign(m, api.Packet{Kind: api.KindNotify, Seq: 1, User: 1}), r.sign(m, api.Packet{Kind: api.KindReply, Seq: 1}),
			{Kind: api.KindNotify, Session: 99, Seq: 1}, {Kind: api.KindReply, Session: 99, Seq: 1},
		} {
			r.expect("not for a server", r.step(5, p))
		}
	})
	if len(r.s.Step(0, hello)) != 1 || len(r.s.Step(65535, hello)) != 1 {
		t.Error("no answer to the first or the last address")
	}
}

func TestP21_2_Hello(t *testing.T) {
	r := start(t)
	for range 200 {
		epoch := r.s.Now() / 64
		for _, x := range [][2]int{{0, 0}, {7, 258}, {65535, api.MaxID}} {
			r.unchanged("a hello", func() {
				r.expect("a hello", r.step(x[0], api.Packet{Kind: api.KindHello, Nonce: x[1]}),
					told{x[0], api.Packet{Kind: api.KindCookie, Nonce: x[1], Epoch: epoch, Secret: cookie.Mint(secret, x[0], x[1], epoch)}})
			})
		}
		r.tick()
	}
}

func TestP21_2_Connect(t *testing.T) {
	r := start(t)
	r.ticks(9)
	p := r.connect(7, 3, 258)
	key := tag.Key(secret, 1, 258)
	accept := told{7, api.Packet{Kind: api.KindAccept, Session: 1, Nonce: 258, Secret: key}}
	r.expect("a connect", r.step(7, p), accept)
	want := state{now: 9, timers: []api.Timer{{ID: 1, At: 20}}}
	want.sessions = []api.Session{{ID: 1, User: 3, Addr: 7, Nonce: 258, Key: key, Status: 3, Beats: []api.Beat{{Seq: 0, At: 9}}, Health: api.Health{State: api.Alive, Since: 9}, Chan: channel.Start()}}
	want.board[3] = api.Entry{Version: 1, Status: 3, Count: 1}
	if !same(r.state(), want) {
		t.Fatalf("opened: %+v", r.state())
	}
	r.unchanged("a second connect", func() { r.expect("a second connect", r.step(7, p), accept) })
	r.expect("of another address", r.step(8, r.connect(8, 3, 258)), told{8, api.Packet{Kind: api.KindAccept, Session: 2, Nonce: 258, Secret: tag.Key(secret, 2, 258)}})
	r.expect("of another nonce", r.step(7, r.connect(7, 3, 259)), told{7, api.Packet{Kind: api.KindAccept, Session: 3, Nonce: 259, Secret: tag.Key(secret, 3, 259)}})
	r.expect("of another user", r.step(7, r.connect(7, 4, 258)), told{7, api.Packet{Kind: api.KindAccept, Session: 4, Nonce: 258, Secret: tag.Key(secret, 4, 258)}})
	r.entry(3, api.Entry{Version: 3, Status: 3, Count: 3})
	r.entry(4, api.Entry{Version: 1, Status: 3, Count: 1})
	r.unchanged("a connect again", func() { r.expect("a connect again", r.step(7, p), accept) })
}

func TestP21_2_ConnectRefused(t *testing.T) {
	r := start(t)
	p := r.connect(7, 3, 258)
	for k, change := range []func(p *api.Packet){
		func(p *api.Packet) { p.Secret[0]++ }, func(p *api.Packet) { p.Secret = [16]byte{} }, func(p *api.Packet) { p.Nonce-- },
	} {
		q := p
		change(&q)
		r.unchanged("a wrong cookie", func() { r.expect("a wrong cookie", r.step(7, q), refusal(7, q.Nonce, api.ErrCookie)) })
		if q == p {
			t.Errorf("case %d is no change", k)
		}
	}
	r.unchanged("from elsewhere", func() { r.expect("from elsewhere", r.step(6, p), refusal(6, 258, api.ErrCookie)) })
	later := p
	later.Epoch = 1
	r.unchanged("too new", func() { r.expect("too new", r.step(7, later), refusal(7, 258, api.ErrOld)) })
	r.ticks(127)
	r.expect("old, and good", r.step(7, p), told{7, api.Packet{Kind: api.KindAccept, Session: 1, Nonce: 258, Secret: tag.Key(secret, 1, 258)}})
	r.tick()
	r.unchanged("too old", func() { r.expect("too old", r.step(7, p), refusal(7, 258, api.ErrOld)) })
}

func TestP21_2_ConnectUsed(t *testing.T) {
	r := start(t)
	beats, orders := r.join(5, 1, 10), r.join(6, 2, 20)
	r.beat(beats)
	r.status(orders, 3)
	r.unchanged("used", func() {
		r.expect("by a beat", r.step(5, r.connect(5, 1, 10)), refusal(5, 10, api.ErrState))
		r.expect("by an order", r.step(6, r.connect(6, 2, 20)), refusal(6, 20, api.ErrState))
	})
}

func TestP21_2_ConnectFull(t *testing.T) {
	r := start(t)
	for n := range 4 {
		r.join(5, 1, n)
	}
	r.unchanged("a fifth", func() { r.expect("a fifth", r.step(5, r.connect(5, 1, 4)), refusal(5, 4, api.ErrFull)) })
	for n := range 28 {
		if m := r.join(5, 2+n/4, n); m.id != n+5 {
			t.Fatalf("the ID is %d", m.id)
		}
	}
	r.unchanged("one too many", func() { r.expect("one too many", r.step(5, r.connect(5, 16, 4)), refusal(5, 4, api.ErrFull)) })
	if !session.Right(r.s.Sessions()) || len(r.s.Sessions()) != 32 {
		t.Error("not 32 sessions")
	}
}

func TestP21_2_ConnectMarks(t *testing.T) {
	r := start(t)
	a, b := r.join(1, 1, 10), r.join(2, 2, 20)
	c := r.join(3, 3, 30)
	r.watch(a, b, 1, 2)
	r.watch(a, c, 1, 3)
	r.watch(b, a, 2, 1)
	if r.roster(a, api.OpAsk, 5) != api.OK {
		t.Fatal("can't ask")
	}
	r.marks("watching", api.Mark{Session: 1, User: 2}, api.Mark{Session: 1, User: 3}, api.Mark{Session: 2, User: 1})
	r.join(9, 1, 11)
	r.marks("another session", api.Mark{Session: 1, User: 2}, api.Mark{Session: 1, User: 3}, api.Mark{Session: 2, User: 1}, api.Mark{Session: 4, User: 2}, api.Mark{Session: 4, User: 3})
	r.entry(1, api.Entry{Version: 2, Status: 3, Count: 2})
	r.join(8, 16, 1)
	if len(r.s.Fan().Marks) != 5 {
		t.Error("marks of one that watches nobody")
	}
}

func TestP21_2_Member(t *testing.T) {
	r := start(t)
	m, other := r.join(5, 1, 9), r.join(6, 2, 9)
	for _, p := range []api.Packet{
		{Kind: api.KindBeat, Seq: 1}, {Kind: api.KindStatus, Seq: 1, Status: 1}, {Kind: api.KindRoster, Seq: 1, Op: api.OpAsk, User: 2}, {Kind: api.KindAck}, {Kind: api.KindBye, Seq: 1},
	} {
		signed := r.sign(m, p)
		bad := signed
		bad.Tag[7]++
		gone := r.sign(&member{id: 77, key: m.key}, p)
		stolen := r.sign(&member{id: m.id, key: other.key}, p)
		r.unchanged("refused", func() {
			r.expect("of no session", r.step(5, gone), refusal(5, 77, api.ErrGone))
			r.expect("with a wrong tag", r.step(5, bad), refusal(5, m.id, api.ErrTag))
			r.expect("by another key", r.step(5, stolen), refusal(5, m.id, api.ErrTag))
			r.expect("from elsewhere", r.step(6, signed), refusal(6, m.id, api.ErrTag))
			r.expect("of no session, from elsewhere", r.step(9, gone), refusal(9, 77, api.ErrGone))
		})
	}
}

func TestP21_2_Beat(t *testing.T) {
	r := start(t)
	m := r.join(5, 1, 9)
	r.due(m, 11)
	r.ticks(4)
	r.beat(m)
	if got := r.find(m); !slices.Equal(got.Beats, []api.Beat{{Seq: 0, At: 0}, {Seq: 1, At: 4}}) || got.Health != (api.Health{State: api.Alive}) {
		t.Fatalf("%+v", got)
	}
	r.due(m, 15)
	r.unchanged("an old beat", func() {
		r.expect("an old beat", r.step(5, r.sign(m, api.Packet{Kind: api.KindBeat, Seq: 1})))
	})
	m.seq = 9
	r.ticks(4)
	r.beat(m)
	if got := r.find(m); got.Beats[2] != (api.Beat{Seq: 10, At: 8}) {
		t.Fatalf("%+v", got)
	}
	r.due(m, 40)
	r.ticks(32)
	if got := r.find(m); got.Health != (api.Health{State: api.Suspect, Since: 40}) {
		t.Fatalf("%+v", got.Health)
	}
	r.due(m, 48)
	r.unchanged("an old beat of one suspected", func() {
		r.expect("an old beat", r.step(5, r.sign(m, api.Packet{Kind: api.KindBeat, Seq: 10})))
	})
	r.ticks(5)
	r.beat(m)
	if got := r.find(m); got.Health != (api.Health{State: api.Alive, Since: 45}) {
		t.Fatalf("%+v", got.Health)
	}
	r.entry(1, api.Entry{Version: 1, Status: 3, Count: 1})
}

func TestP21_2_Order(t *testing.T) {
	r := start(t)
	m := r.join(5, 1, 9)
	order := func(seq, status int) api.Packet {
		return r.sign(m, api.Packet{Kind: api.KindStatus, Seq: seq, Status: status})
	}
	reply := func(seq, code int) told {
		return told{5, r.sign(m, api.Packet{Kind: api.KindReply, Seq: seq, Op: code})}
	}
	r.unchanged("too far ahead", func() {
		r.expect("too far ahead", r.step(5, order(2, 1)))
		r.expect("much too far ahead", r.step(5, order(api.MaxID, 1)))
	})
	r.expect("the first", r.step(5, order(1, 2)), reply(1, 0))
	r.entry(1, api.Entry{Version: 2, Status: 2, Count: 1})
	r.unchanged("again", func() {
		r.expect("again", r.step(5, order(1, 2)), reply(1, 0))
		r.expect("another one of that number", r.step(5, order(1, 1)), reply(1, 0))
		r.expect("of another kind", r.step(5, r.sign(m, api.Packet{Kind: api.KindBye, Seq: 1})), reply(1, 0))
		r.expect("too far ahead", r.step(5, order(3, 1)))
	})
	r.expect("the second", r.step(5, r.sign(m, api.Packet{Kind: api.KindRoster, Seq: 2, Op: api.OpLeave, User: 2})), reply(2, 8))
	if got := r.find(m); got.OpSeq != 2 || got.OpCode != 8 || got.Status != 2 {
		t.Fatalf("%+v", got)
	}
	r.unchanged("again", func() {
		r.expect("again", r.step(5, order(2, 2)), reply(2, 8))
		r.expect("an old one", r.step(5, order(1, 3)))
	})
	r.expect("the third", r.step(5, order(3, 2)), reply(3, 0))
	r.entry(1, api.Entry{Version: 2, Status: 2, Count: 1})
	r.expect("the fourth", r.step(5, order(4, 1)), reply(4, 0))
	r.entry(1, api.Entry{Version: 3, Status: 1, Count: 1})
	if got := r.find(m); got.OpSeq != 4 || got.OpCode != 0 || got.Status != 1 {
		t.Fatalf("%+v", got)
	}
}

func TestP21_2_StatusTellsWatchers(t *testing.T) {
	r := start(t)
	a, a2, b, c := r.join(1, 1, 10), r.join(1, 1, 11), r.join(2, 2, 20), r.join(3, 3, 30)
	r.watch(c, b, 3, 2)
	r.watch(a, b, 1, 2)
	r.marks("approved", api.Mark{Session: c.id, User: 2}, api.Mark{Session: a.id, User: 2}, api.Mark{Session: a2.id, User: 2})
	r.beat(a)
	r.beat(a2)
	if got := r.tick(); len(got) != 3 {
		t.Fatalf("%+v", got)
	}
	r.marks("told")
	r.status(b, 3)
	r.marks("nothing else")
	r.status(b, 1)
	r.marks("changed", api.Mark{Session: a.id, User: 2}, api.Mark{Session: a2.id, User: 2}, api.Mark{Session: c.id, User: 2})
	r.status(b, 2)
	r.marks("changed again", api.Mark{Session: a.id, User: 2}, api.Mark{Session: a2.id, User: 2}, api.Mark{Session: c.id, User: 2})
	r.status(a, 1)
	r.marks("nobody watches", api.Mark{Session: a.id, User: 2}, api.Mark{Session: a2.id, User: 2}, api.Mark{Session: c.id, User: 2})
	r.entry(1, api.Entry{Version: 2, Status: 3, Count: 2})
}

func TestP21_2_Bye(t *testing.T) {
	r := start(t)
	a, b := r.join(1, 1, 10), r.join(2, 2, 20)
	r.watch(a, b, 1, 2)
	r.watch(b, a, 2, 1)
	r.marks("before", api.Mark{Session: a.id, User: 2}, api.Mark{Session: b.id, User: 1})
	if code := r.order(b, api.Packet{Kind: api.KindBye}); code != api.OK {
		t.Fatalf("%d", code)
	}
	r.marks("behind", api.Mark{Session: a.id, User: 2})
	r.entry(2, api.Entry{Version: 2})
	if !slices.Equal(r.s.Timers(), []api.Timer{{ID: a.id, At: 11}}) || len(r.s.Sessions()) != 1 || len(r.s.Rels()) != 2 {
		t.Fatalf("%+v", r.state())
	}
	r.unchanged("again", func() {
		r.expect("again", r.step(2, r.sign(b, api.Packet{Kind: api.KindBye, Seq: 2})), refusal(2, b.id, api.ErrGone))
	})
	if m := r.join(2, 2, 20); m.id != 3 {
		t.Errorf("the next one is %d", m.id)
	}
	r.entry(2, api.Entry{Version: 3, Status: 3, Count: 1})
}

func TestP21_2_Roster(t *testing.T) {
	r := start(t)
	a, a2, b := r.join(1, 1, 10), r.join(1, 1, 11), r.join(2, 2, 20)
	for k, x := range []struct {
		m        *member
		op, user int
		code     api.Errno
		state    int
		marks    int
	}{
		{a, api.OpAsk, 1, api.ErrArg, 0, 0}, {b, api.OpApprove, 1, api.ErrState, 0, 0}, {a, api.OpAsk, 2, api.OK, 1, 0}, {a2, api.OpAsk, 2, api.ErrState, 1, 0},
		{a, api.OpApprove, 2, api.ErrState, 1, 0}, {b, api.OpDeny, 1, api.OK, 3, 0}, {a2, api.OpAsk, 2, api.OK, 1, 0}, {b, api.OpApprove, 1, api.OK, 2, 2},
		{b, api.OpRevoke, 1, api.OK, 0, 0}, {a, api.OpAsk, 2, api.OK, 1, 0}, {b, api.OpApprove, 1, api.OK, 2, 2}, {a2, api.OpLeave, 2, api.OK, 0, 0},
		{a, api.OpAsk, 2, api.OK, 1, 0}, {b, api.OpApprove, 1, api.OK, 2, 2}, {b, api.OpBlock, 1, api.OK, 4, 0}, {a, api.OpAsk, 2, api.ErrState, 4, 0}, {b, api.OpUnblock, 1, api.OK, 0, 0},
	} {
		before := r.s.Board()
		if code := r.roster(x.m, x.op, x.user); code != x.code {
			t.Fatalf("case %d: %d", k, code)
		}
		if got := roster.State(r.s.Rels(), 1, 2); got != x.state {
			t.Fatalf("case %d: the state is %d", k, got)
		}
		var want []api.Mark
		for id := 1; id <= x.marks; id++ {
			want = append(want, api.Mark{Session: id, User: 2})
		}
		r.marks("roster", want...)
		if got := r.find(x.m); got.OpSeq != x.m.op || got.OpCode != int(x.code) || r.s.Board() != before {
			t.Fatalf("case %d: %+v", k, got)
		}
	}
}

func TestP21_2_NoLonger(t *testing.T) {
	for _, x := range []struct {
		op   int
		mine bool
	}{{api.OpLeave, true}, {api.OpRevoke, false}, {api.OpBlock, false}} {
		r := start(t)
		a, a2, b, c := r.join(1, 1, 10), r.join(1, 1, 11), r.join(2, 2, 20), r.join(3, 3, 30)
		r.watch(a, b, 1, 2)
		r.watch(a, c, 1, 3)
		r.watch(c, b, 3, 2)
		r.beat(a2)
		r.tick()
		r.ack(a, 1, 0)
		r.tick()
		r.status(b, 1)
		r.marks("before", api.Mark{Session: a2.id, User: 3}, api.Mark{Session: a.id, User: 2}, api.Mark{Session: a2.id, User: 2}, api.Mark{Session: c.id, User: 2})
		who, user := b, 1
		if x.mine {
			who, user = a, 2
		}
		if r.roster(who, x.op, user) != api.OK {
			t.Fatal("no longer: refused")
		}
		r.marks("behind", api.Mark{Session: a2.id, User: 3}, api.Mark{Session: c.id, User: 2})
		for _, y := range []struct {
			m    *member
			user int
		}{{a, 3}, {a2, 0}, {c, 2}} {
			flights := r.find(y.m).Chan.Send.Flights
			if len(flights) != 1 || flights[0].Note.User != y.user || y.user == 0 && flights[0].Note != (api.Note{}) {
				t.Fatalf("op %d: on its way to %d: %+v", x.op, y.m.id, flights)
			}
		}
		if got := r.find(who); got.OpSeq != who.op || got.OpCode != 0 {
			t.Fatalf("op %d: %+v", x.op, got)
		}
	}
}

func TestP21_2_Ack(t *testing.T) {
	r := start(t)
	a, b := r.join(1, 1, 10), r.join(2, 2, 20)
	r.watch(a, b, 1, 2)
	r.expect("the first", r.tick(), r.note(a, 1, 2, 1, 3, 1))
	r.ticks(3)
	before := r.find(a)
	r.ack(a, 1, 0)
	want := channel.Ack(before.Chan, 1, 0, 4)
	if got := r.find(a); !channel.Same(got.Chan, want) || !channel.Idle(got.Chan) || got.Chan.Rtt.S != 24 {
		t.Fatalf("%+v", got.Chan)
	}
	r.unchanged("an ack of what was never sent", func() { r.ack(a, 5, 255) })
	r.status(b, 1)
	r.status(b, 2)
	r.expect("the second", r.tick(), r.note(a, 2, 2, 3, 2, 1))
	r.unchanged("an ack of another", func() { r.ack(a, 1, 2) })
	r.ack(a, 0, 1)
	if !channel.Idle(r.find(a).Chan) {
		t.Error("not told by the sack")
	}
}

func TestP21_3_Look(t *testing.T) {
	r := start(t)
	a, b := r.join(1, 1, 10), r.join(2, 2, 20)
	r.watch(b, a, 2, 1)
	r.beat(b)
	for range 2 {
		r.ticks(4)
		r.beat(b)
	}
	r.ticks(2)
	if got := r.find(a); got.Health.State != api.Alive {
		t.Fatalf("at 10: %+v", got.Health)
	}
	r.tick()
	if got := r.find(a); got.Health != (api.Health{State: api.Suspect, Since: 11}) {
		t.Fatalf("at 11: %+v", got.Health)
	}
	r.due(a, 19)
	r.ticks(5)
	r.beat(b)
	r.ticks(2)
	r.find(a)
	r.entry(1, api.Entry{Version: 1, Status: 3, Count: 1})
	r.marks("before", []api.Mark(nil)...)
	r.tick()
	if _, ok := session.Find(r.s.Sessions(), a.id); ok || len(r.s.Timers()) != 1 {
		t.Fatalf("at 19: %+v", r.state())
	}
	r.entry(1, api.Entry{Version: 2})
	r.expect("gone", r.step(1, r.sign(a, api.Packet{Kind: api.KindBeat, Seq: 9})), refusal(1, a.id, api.ErrGone))
}

func TestP21_3_EndDropsAndTells(t *testing.T) {
	r := start(t)
	a, b, c := r.join(1, 1, 10), r.join(2, 2, 20), r.join(3, 3, 30)
	r.watch(c, a, 3, 1)
	r.watch(c, b, 3, 2)
	r.watch(b, a, 2, 1)
	r.beat(c)
	r.tick()
	r.ack(c, 1, 0)
	r.tick()
	r.ack(c, 2, 0)
	for range 8 {
		r.ticks(2)
		r.beat(c)
	}
	if got := r.s.Now(); got != 18 {
		t.Fatalf("%d", got)
	}
	r.expect("both gone", r.tick(), r.note(c, 3, 1, 2, 0, 0), r.note(c, 4, 2, 2, 0, 0))
	if got := r.s.Sessions(); len(got) != 1 || got[0].ID != c.id {
		t.Fatalf("%+v", got)
	}
	r.marks("all told")
}

func TestP21_3_Budget(t *testing.T) {
	r := start(t)
	watcher := r.join(1, 1, 10)
	second := r.join(1, 1, 11)
	var others []*member
	for user := 2; user <= 7; user++ {
		others = append(others, r.join(user, user, user))
	}
	for i, m := range others {
		r.watch(watcher, m, 1, i+2)
	}
	r.expect("one by one", r.tick(), r.note(watcher, 1, 2, 1, 3, 1))
	r.beat(second)
	r.expect("who is used", r.tick(), r.note(second, 1, 2, 1, 3, 1))
	if got := r.s.Fan(); got.Turn != second.id || len(got.Marks) != 10 {
		t.Fatalf("%+v", got)
	}
	r.ack(watcher, 1, 0)
	r.ack(second, 1, 0)
	r.expect("in turns", r.tick(), r.note(watcher, 2, 3, 1, 3, 1), r.note(second, 2, 3, 1, 3, 1), r.note(watcher, 3, 4, 1, 3, 1), r.note(second, 3, 4, 1, 3, 1))
	r.expect("no room", r.tick())
	r.ack(watcher, 3, 0)
	r.expect("again, and room for more", r.tick(), r.note(second, 2, 3, 1, 3, 1), r.note(second, 3, 4, 1, 3, 1), r.note(watcher, 4, 5, 1, 3, 1), r.note(watcher, 5, 6, 1, 3, 1))
}

func TestP21_3_Again(t *testing.T) {
	r := start(t)
	var l []*member
	for user := 1; user <= 6; user++ {
		l = append(l, r.join(user, user, user))
	}
	for _, m := range l[1:] {
		r.watch(m, l[0], m.id, 1)
	}
	first := r.tick()
	r.expect("the budget", first, r.note(l[1], 1, 1, 1, 3, 1), r.note(l[2], 1, 1, 1, 3, 1), r.note(l[3], 1, 1, 1, 3, 1), r.note(l[4], 1, 1, 1, 3, 1))
	r.expect("what was left", r.tick(), r.note(l[5], 1, 1, 1, 3, 1))
	r.ticks(6)
	for _, m := range l {
		r.beat(m)
	}
	r.status(l[0], 1)
	r.ack(l[1], 1, 0)
	r.expect("again, and then new", r.tick(), first[1], first[2], first[3], r.note(l[1], 2, 1, 2, 1, 1))
	r.expect("again", r.tick(), r.note(l[5], 1, 1, 1, 3, 1))
	if got := r.find(l[2]).Chan; got.Rtt.Rto != 16 || got.Rtt.Fails != 1 || got.Send.Flights[0].At != 9 || got.Send.Flights[0].Tries != 2 {
		t.Fatalf("%+v", got)
	}
}

func TestP21_3_AgainWithinBudget(t *testing.T) {
	r := start(t)
	var l []*member
	for user := 1; user <= 7; user++ {
		l = append(l, r.join(user, user, user))
	}
	for _, m := range l[1:] {
		r.watch(m, l[0], m.id, 1)
	}
	if n := len(r.tick()); n != 4 {
		t.Fatalf("%d are sent", n)
	}
	r.ticks(6)
	for _, m := range l {
		r.beat(m)
	}
	r.status(l[0], 1)
	r.expect("not yet", r.tick())
	r.expect("four again", r.tick(), r.note(l[1], 1, 1, 1, 3, 1), r.note(l[2], 1, 1, 1, 3, 1), r.note(l[3], 1, 1, 1, 3, 1), r.note(l[4], 1, 1, 1, 3, 1))
	if got := r.find(l[5]).Chan; got.Rtt.Fails != 0 || got.Send.Flights[0].Tries != 1 {
		t.Fatalf("%+v", got)
	}
	r.expect("the others", r.tick(), r.note(l[5], 1, 1, 1, 3, 1), r.note(l[6], 1, 1, 1, 3, 1))
}

func TestP21_Example(t *testing.T) {
	r := start(t)
	got := r.step(4, api.Packet{Kind: api.KindHello, Nonce: 5})
	p := api.Packet{Kind: api.KindConnect, User: 9, Nonce: got[0].p.Nonce, Epoch: got[0].p.Epoch, Secret: got[0].p.Secret}
	if got = r.step(4, p); got[0].p.Kind != api.KindAccept || got[0].p.Session != 1 {
		t.Fatalf("%+v", got)
	}
	r.entry(9, api.Entry{Version: 1, Status: 3, Count: 1})
}

func TestP21_4_Memory(t *testing.T) {
	r := start(t)
	a, b := r.join(1, 1, 10), r.join(2, 2, 20)
	r.watch(a, b, 1, 2)
	r.watch(b, a, 2, 1)
	r.tick()
	r.status(a, 1)
	r.status(b, 1)
	one, two := r.state(), r.state()
	if len(one.fan.Marks) == 0 || len(one.sessions[0].Chan.Send.Flights) == 0 {
		t.Fatalf("%+v", one)
	}
	if probe.Shares(one.sessions, two.sessions) || probe.Shares(one.rels, two.rels) || probe.Shares(one.fan.Marks, two.fan.Marks) || probe.Shares(one.timers, two.timers) ||
		probe.Shares(one.sessions[0].Beats, two.sessions[0].Beats) || probe.Shares(one.sessions[0].Chan.Send.Flights, two.sessions[0].Chan.Send.Flights) {
		t.Error("memory is shared")
	}
	r.unchanged("what is answered", func() {
		x := r.state()
		x.sessions[0].Beats[0].At, x.sessions[0].Chan.Send.Flights[0].At, x.sessions[1].ID = 77, 77, 77
		x.rels[0].State, x.fan.Marks[0].User, x.timers[0].At, x.board[1].Version = 77, 77, 77, 77
	})
	for _, p := range []api.Packet{{Kind: api.KindHello, Nonce: 1}, r.sign(a, api.Packet{Kind: api.KindBeat, Seq: 1}), r.sign(a, api.Packet{Kind: api.KindBye, Seq: 77})} {
		laid, _ := wire.Encode(p)
		in, kept := probe.Roomy(laid, 7)
		outs := r.s.Step(1, in)
		if !kept() {
			t.Errorf("what is handed in is changed: %v", in)
		}
		for _, o := range outs {
			if probe.Shares(o.Bytes, in) {
				t.Error("an answer shares memory")
			}
		}
	}
	r.ticks(7)
	outs := r.s.Tick()
	for i, o := range outs {
		for _, x := range outs[:i] {
			if probe.Shares(o.Bytes, x.Bytes) {
				t.Error("two answers share memory")
			}
		}
	}
	if len(outs) < 2 {
		t.Errorf("%d are sent", len(outs))
	}
}
