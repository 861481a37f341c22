package client_test

import (
	"math/rand"
	"slices"
	"testing"

	"nightjar/api"
	"nightjar/client"
	"nightjar/probe"
	"nightjar/tag"
	"nightjar/wire"
)

var (
	key    = [16]byte{1, 2, 3}
	cookie = [16]byte{9, 8, 7}
)

// rig is a client, and what a server would know of it.
type rig struct {
	t *testing.T
	c *client.Client
}

func start(t *testing.T, user, nonce int) rig {
	t.Helper()
	r := rig{t, client.New(user)}
	if !r.c.Start(nonce) {
		t.Fatalf("can't start with %d", nonce)
	}
	return r
}

// on is a client of the user 4 that is On with the session 7, at the tick 1.
func on(t *testing.T) rig {
	t.Helper()
	r := start(t, 4, 100)
	r.tick()
	r.join(7)
	return r
}

// join leads from Greet to On.
func (r rig) join(session int) {
	r.t.Helper()
	nonce := r.greeting()
	r.step(api.Packet{Kind: api.KindCookie, Nonce: nonce, Epoch: 3, Secret: cookie})
	r.expect("an accept", r.step(api.Packet{Kind: api.KindAccept, Session: session, Nonce: nonce, Secret: key}))
	r.is(api.On, session)
}

// greeting waits for a hello, and tells its nonce.
func (r rig) greeting() int {
	r.t.Helper()
	for range 5 {
		if l := r.tick(); len(l) == 1 && l[0].Kind == api.KindHello {
			return l[0].Nonce
		}
	}
	r.t.Fatal("no hello")
	return 0
}

func (r rig) read(rows [][]byte) []api.Packet {
	r.t.Helper()
	var l []api.Packet
	for _, b := range rows {
		p, err := wire.Decode(b)
		if err != api.OK {
			r.t.Fatalf("sent is no packet: %v", b)
		}
		l = append(l, p)
	}
	return l
}

func (r rig) tick() []api.Packet {
	r.t.Helper()
	return r.read(r.c.Tick())
}

func (r rig) step(p api.Packet) []api.Packet {
	r.t.Helper()
	b, err := wire.Encode(p)
	if err != api.OK {
		r.t.Fatalf("no packet: %+v", p)
	}
	return r.read(r.c.Step(b))
}

func (r rig) sign(p api.Packet) api.Packet {
	r.t.Helper()
	signed, ok := tag.Sign(key, p)
	if !ok {
		r.t.Fatalf("can't be signed: %+v", p)
	}
	return signed
}

func (r rig) expect(name string, got []api.Packet, want ...api.Packet) {
	r.t.Helper()
	if !slices.Equal(got, want) {
		r.t.Fatalf("%s: sent %+v, not %+v", name, got, want)
	}
}

func (r rig) is(state, session int) {
	r.t.Helper()
	if r.c.State() != state || r.c.Session() != session {
		r.t.Fatalf("the state is %d, the session %d, not %d, %d", r.c.State(), r.c.Session(), state, session)
	}
}

func (r rig) code(want api.Errno) {
	r.t.Helper()
	if got := r.c.Last(); got != want {
		r.t.Fatalf("the code is %d, not %d", got, want)
	}
}

func (r rig) waits(want int) {
	r.t.Helper()
	if got := r.c.Waits(); got != want {
		r.t.Fatalf("%d orders wait, not %d", got, want)
	}
}

func (r rig) view(user int, want api.Note) {
	r.t.Helper()
	if got, ok := r.c.View(user); got != want || ok != (want != api.Note{}) {
		r.t.Fatalf("the view of %d is %+v, %v, not %+v", user, got, ok, want)
	}
}

// note is a KindNotify, signed, and ack what is answered to one.
func (r rig) note(session, seq int, n api.Note) api.Packet {
	r.t.Helper()
	return r.sign(api.Packet{Kind: api.KindNotify, Session: session, Seq: seq, User: n.User, Version: n.Version, Status: n.Status, Count: n.Count})
}

func (r rig) ack(session, ack, sack int) api.Packet {
	r.t.Helper()
	return r.sign(api.Packet{Kind: api.KindAck, Session: session, Ack: ack, Sack: sack})
}

func (r rig) reply(session, seq int, code api.Errno) api.Packet {
	r.t.Helper()
	return r.sign(api.Packet{Kind: api.KindReply, Session: session, Seq: seq, Op: int(code)})
}

func (r rig) beat(session, seq int) api.Packet {
	r.t.Helper()
	return r.sign(api.Packet{Kind: api.KindBeat, Session: session, Seq: seq})
}

func note(user, version int) api.Note {
	return api.Note{User: user, Version: version, Status: 2, Count: 1}
}

var (
	status = api.Order{Kind: api.KindStatus, Status: 2}
	asks   = api.Order{Kind: api.KindRoster, Op: api.OpAsk, User: 3}
	bye    = api.Order{Kind: api.KindBye}
)

func (r rig) order(l ...api.Order) {
	r.t.Helper()
	for _, o := range l {
		if !r.c.Order(o) {
			r.t.Fatalf("refused: %+v", o)
		}
	}
}

func TestP22_1_New(t *testing.T) {
	for _, x := range [][2]int{{api.MinInt, 1}, {-1, 1}, {0, 1}, {1, 1}, {7, 7}, {16, 16}, {17, 16}, {api.MaxInt, 16}} {
		r := rig{t, client.New(x[0])}
		r.is(api.Off, 0)
		r.code(api.OK)
		r.waits(0)
		r.view(1, api.Note{})
		r.c.Start(5)
		want := api.Packet{Kind: api.KindConnect, User: x[1], Nonce: 5, Epoch: 3, Secret: cookie}
		r.expect("a cookie", r.step(api.Packet{Kind: api.KindCookie, Nonce: 5, Epoch: 3, Secret: cookie}), want)
	}
}

// filled is a client that has something of all.
func filled(t *testing.T) rig {
	t.Helper()
	r := on(t)
	r.order(status, asks, status)
	r.step(r.reply(7, 1, api.ErrFull))
	r.step(r.note(7, 1, note(3, 5)))
	r.code(api.ErrFull)
	r.waits(2)
	r.view(3, note(3, 5))
	return r
}

func TestP22_1_StartAndCrash(t *testing.T) {
	for _, nonce := range []int{api.MinInt, -1, api.MaxID + 1, api.MaxInt} {
		r := filled(t)
		if r.c.Start(nonce) {
			t.Errorf("starts with %d", nonce)
		}
		r.is(api.On, 7)
		r.code(api.ErrFull)
		r.waits(2)
		r.view(3, note(3, 5))
	}
	forgot := func(r rig, state int) {
		t.Helper()
		r.is(state, 0)
		r.code(api.OK)
		r.waits(0)
		r.view(3, api.Note{})
	}
	for _, nonce := range []int{0, 1, api.MaxID} {
		r := filled(t)
		if !r.c.Start(nonce) {
			t.Errorf("does not start with %d", nonce)
		}
		forgot(r, api.Greet)
		for n := 1; n <= 9; n++ {
			if n%4 == 1 {
				r.expect("a hello", r.tick(), api.Packet{Kind: api.KindHello, Nonce: nonce})
			} else {
				r.expect("a pause", r.tick())
			}
		}
		r.expect("the user stays", r.step(api.Packet{Kind: api.KindCookie, Nonce: nonce}), api.Packet{Kind: api.KindConnect, User: 4, Nonce: nonce})
	}
	r := filled(t)
	r.c.Crash()
	forgot(r, api.Off)
	r.expect("a tick of one that is off", r.tick())
	r.c.Start(100)
	r.tick()
	r.join(8)
	r.expect("beats from one on", r.tick(), r.beat(8, 1))
	r.expect("notes from one on", r.step(r.note(8, 1, note(3, 2))), r.ack(8, 1, 0))
	r.view(3, note(3, 2))
	r.order(asks)
	r.expect("orders from one on", r.tick(), r.sign(api.Packet{Kind: api.KindRoster, Session: 8, Seq: 1, Op: api.OpAsk, User: 3}))
}

func TestP22_2_Order(t *testing.T) {
	r := rig{t, client.New(1)}
	if r.c.Order(status) || r.c.Waits() != 0 {
		t.Error("ordered, and off")
	}
	good := []api.Order{
		bye, {Kind: api.KindStatus, Status: 1}, {Kind: api.KindStatus, Status: 3},
		{Kind: api.KindRoster, Op: 1, User: 1}, {Kind: api.KindRoster, Op: 7, User: 16},
	}
	for _, o := range good {
		r := start(t, 1, 5)
		if !r.c.Order(o) || r.c.Waits() != 1 {
			t.Errorf("refused: %+v", o)
		}
	}
	wrong := []api.Order{
		{}, {Kind: 5}, {Kind: 8}, {Kind: 11}, {Kind: -1}, {Kind: api.MaxInt},
		{Kind: api.KindStatus}, {Kind: api.KindStatus, Status: 4}, {Kind: api.KindStatus, Status: -1}, {Kind: api.KindStatus, Status: 1, Op: 1}, {Kind: api.KindStatus, Status: 1, User: 1},
		{Kind: api.KindRoster, Op: 0, User: 1}, {Kind: api.KindRoster, Op: 8, User: 1}, {Kind: api.KindRoster, Op: 1, User: 0}, {Kind: api.KindRoster, Op: 1, User: 17}, {Kind: api.KindRoster, Op: 1, User: 1, Status: 1},
		{Kind: api.KindRoster, Op: -1, User: -1}, {Kind: api.KindBye, Op: 1}, {Kind: api.KindBye, User: 1}, {Kind: api.KindBye, Status: 1},
	}
	r = start(t, 1, 5)
	for _, o := range wrong {
		if r.c.Order(o) || r.c.Waits() != 0 {
			t.Errorf("ordered: %+v", o)
		}
	}
	for n := 1; n <= 8; n++ {
		r.order(status)
		r.waits(n)
	}
	if r.c.Order(status) || r.c.Order(bye) {
		t.Error("nine orders wait")
	}
	r.waits(8)
}

func TestP22_2_OrdersInOrder(t *testing.T) {
	r := on(t)
	l := []api.Order{status, asks, {Kind: api.KindRoster, Op: api.OpBlock, User: 16}, bye}
	r.order(l...)
	r.expect("a beat and an order", r.tick(), r.beat(7, 1), r.sign(api.Packet{Kind: api.KindStatus, Session: 7, Seq: 1, Status: 2}))
	r.step(r.reply(7, 1, api.OK))
	r.expect("the second", r.tick(), r.sign(api.Packet{Kind: api.KindRoster, Session: 7, Seq: 2, Op: api.OpAsk, User: 3}))
	r.step(r.reply(7, 2, api.OK))
	r.expect("the third", r.tick(), r.sign(api.Packet{Kind: api.KindRoster, Session: 7, Seq: 3, Op: api.OpBlock, User: 16}))
	r.step(r.reply(7, 3, api.OK))
	r.expect("the fourth", r.tick(), r.sign(api.Packet{Kind: api.KindBye, Session: 7, Seq: 4}))
}

func TestP22_3_TickOff(t *testing.T) {
	r := rig{t, client.New(3)}
	for range 10 {
		r.expect("off", r.tick())
	}
	r.c.Start(9)
	r.expect("at once", r.tick(), api.Packet{Kind: api.KindHello, Nonce: 9})
}

func TestP22_3_TickAsks(t *testing.T) {
	r := start(t, 3, 9)
	hello := api.Packet{Kind: api.KindHello, Nonce: 9}
	for n := 1; n <= 14; n++ {
		if n%4 == 1 {
			r.expect("a hello", r.tick(), hello)
		} else {
			r.expect("a pause", r.tick())
		}
	}
	connect := api.Packet{Kind: api.KindConnect, User: 3, Nonce: 9, Epoch: 8, Secret: cookie}
	r.expect("a cookie", r.step(api.Packet{Kind: api.KindCookie, Nonce: 9, Epoch: 8, Secret: cookie}), connect)
	r.is(api.Join, 0)
	for n := 1; n <= 13; n++ {
		if n%4 == 0 {
			r.expect("a connect", r.tick(), connect)
		} else {
			r.expect("a pause", r.tick())
		}
	}
}

func TestP22_3_TickOn(t *testing.T) {
	r := on(t)
	for n := range 20 {
		if n%4 == 0 {
			r.expect("a beat", r.tick(), r.beat(7, n/4+1))
		} else {
			r.expect("a pause", r.tick())
		}
	}
	r = on(t)
	r.tick()
	r.tick()
	r.order(status, asks)
	first := r.sign(api.Packet{Kind: api.KindStatus, Session: 7, Seq: 1, Status: 2})
	for n := 3; n <= 12; n++ {
		var want []api.Packet
		if n%4 == 1 {
			want = append(want, r.beat(7, n/4+1))
		}
		if n%4 == 3 {
			want = append(want, first)
		}
		r.expect("beats and orders", r.tick(), want...)
	}
	r.step(r.reply(7, 1, api.OK))
	r.expect("at once", r.tick(), r.beat(7, 4), r.sign(api.Packet{Kind: api.KindRoster, Session: 7, Seq: 2, Op: api.OpAsk, User: 3}))
}

func TestP22_4_NoPacket(t *testing.T) {
	r := filled(t)
	hello, _ := wire.Encode(api.Packet{Kind: api.KindHello, Nonce: 9})
	for _, b := range [][]byte{nil, {}, {0}, {13, 1}, make([]byte, 99), hello, append(slices.Clone(hello), 1)} {
		r.expect("no packet", r.read(r.c.Step(b)))
	}
	for _, p := range []api.Packet{
		{Kind: api.KindHello, Nonce: 100}, {Kind: api.KindConnect, User: 4, Nonce: 100}, r.beat(7, 1), r.ack(7, 1, 0), r.sign(api.Packet{Kind: api.KindBye, Session: 7, Seq: 2}),
		r.sign(api.Packet{Kind: api.KindStatus, Session: 7, Seq: 2, Status: 1}), r.sign(api.Packet{Kind: api.KindRoster, Session: 7, Seq: 2, Op: 1, User: 1}),
	} {
		r.expect("not for a client", r.step(p))
	}
	r.is(api.On, 7)
	r.waits(2)
	r.code(api.ErrFull)
}

// states are clients in each state, all of the nonce 100.
func states(t *testing.T) map[int]rig {
	greet, join := start(t, 4, 100), start(t, 4, 100)
	join.step(api.Packet{Kind: api.KindCookie, Nonce: 100, Epoch: 3, Secret: cookie})
	return map[int]rig{api.Off: {t, client.New(4)}, api.Greet: greet, api.Join: join, api.On: on(t)}
}

func TestP22_4_Cookie(t *testing.T) {
	for state, r := range states(t) {
		session := r.c.Session()
		r.expect("of another nonce", r.step(api.Packet{Kind: api.KindCookie, Nonce: 101, Epoch: 5, Secret: key}))
		r.is(state, session)
		got := r.step(api.Packet{Kind: api.KindCookie, Nonce: 100, Epoch: 5, Secret: key})
		if state != api.Greet {
			r.expect("in another state", got)
			r.is(state, session)
			continue
		}
		connect := api.Packet{Kind: api.KindConnect, User: 4, Nonce: 100, Epoch: 5, Secret: key}
		r.expect("a cookie", got, connect)
		r.is(api.Join, 0)
		for range 3 {
			r.expect("a pause", r.tick())
		}
		r.expect("again", r.tick(), connect)
	}
}

func TestP22_4_Accept(t *testing.T) {
	for state, r := range states(t) {
		session := r.c.Session()
		r.expect("of another nonce", r.step(api.Packet{Kind: api.KindAccept, Session: 9, Nonce: 101, Secret: key}))
		r.is(state, session)
		r.expect("an accept", r.step(api.Packet{Kind: api.KindAccept, Session: 9, Nonce: 100, Secret: key}))
		if state != api.Join {
			r.is(state, session)
			continue
		}
		r.is(api.On, 9)
		r.code(api.OK)
		r.order(status)
		r.expect("at once", r.tick(), r.beat(9, 1), r.sign(api.Packet{Kind: api.KindStatus, Session: 9, Seq: 1, Status: 2}))
		r.expect("from one on", r.step(r.note(9, 1, note(3, 1))), r.ack(9, 1, 0))
	}
}

func TestP22_4_ErrorInJoin(t *testing.T) {
	for state, r := range states(t) {
		session := r.c.Session()
		r.expect("of another nonce", r.step(api.Packet{Kind: api.KindError, Nonce: 101, Op: 4}))
		r.is(state, session)
		r.code(api.OK)
		r.expect("an error", r.step(api.Packet{Kind: api.KindError, Nonce: 100, Op: 4}))
		if state != api.Join {
			r.is(state, session)
			r.code(api.OK)
			continue
		}
		r.is(api.Greet, 0)
		r.code(api.ErrOld)
		for range 3 {
			r.expect("a pause", r.tick())
		}
		r.expect("a hello", r.tick(), api.Packet{Kind: api.KindHello, Nonce: 100})
	}
}

func TestP22_4_ErrorInJoinLater(t *testing.T) {
	r := start(t, 4, 100)
	r.step(api.Packet{Kind: api.KindCookie, Nonce: 100})
	r.tick()
	r.tick()
	r.step(api.Packet{Kind: api.KindError, Nonce: 100, Op: 15})
	r.code(15)
	for range 3 {
		r.expect("a pause", r.tick())
	}
	r.expect("a hello", r.tick(), api.Packet{Kind: api.KindHello, Nonce: 100})
}

func TestP22_4_Gone(t *testing.T) {
	r := filled(t)
	for _, p := range []api.Packet{{Kind: api.KindError, Nonce: 8, Op: 6}, {Kind: api.KindError, Nonce: 100, Op: 6}, {Kind: api.KindError, Nonce: 7, Op: 5}, {Kind: api.KindError, Nonce: 7}, {Kind: api.KindError, Nonce: 7, Op: 7}} {
		r.expect("another error", r.step(p))
		r.is(api.On, 7)
		r.code(api.ErrFull)
	}
	r.tick()
	r.expect("gone", r.step(api.Packet{Kind: api.KindError, Nonce: 7, Op: 6}))
	r.is(api.Greet, 0)
	r.code(api.ErrGone)
	r.waits(2)
	r.view(3, note(3, 5))
	r.expect("at once", r.tick(), api.Packet{Kind: api.KindHello, Nonce: 101})
	r.step(api.Packet{Kind: api.KindCookie, Nonce: 101, Epoch: 3, Secret: cookie})
	r.step(api.Packet{Kind: api.KindAccept, Session: 20, Nonce: 101, Secret: key})
	r.expect("anew", r.tick(), r.beat(20, 1), r.sign(api.Packet{Kind: api.KindRoster, Session: 20, Seq: 1, Op: api.OpAsk, User: 3}))
	r.expect("anew", r.step(r.note(20, 1, note(3, 4))), r.ack(20, 1, 0))
	r.view(3, note(3, 5))
	last := start(t, 4, api.MaxID)
	last.tick()
	last.join(5)
	last.step(api.Packet{Kind: api.KindError, Nonce: 5, Op: 6})
	last.expect("behind the last nonce", last.tick(), api.Packet{Kind: api.KindHello, Nonce: 0})
}

func TestP22_4_Notify(t *testing.T) {
	r := on(t)
	r.expect("ahead", r.step(r.note(7, 2, note(3, 6))), r.ack(7, 0, 1))
	r.view(3, api.Note{})
	r.expect("both", r.step(r.note(7, 1, note(3, 5))), r.ack(7, 2, 0))
	r.view(3, note(3, 6))
	r.expect("again", r.step(r.note(7, 1, note(3, 5))), r.ack(7, 2, 0))
	r.expect("older", r.step(r.note(7, 3, note(3, 4))), r.ack(7, 3, 0))
	r.view(3, note(3, 6))
	other := note(3, 6)
	other.Status = 1
	r.expect("of the same version", r.step(r.note(7, 4, other)), r.ack(7, 4, 0))
	r.view(3, note(3, 6))
	r.expect("of nobody", r.step(r.note(7, 5, api.Note{})), r.ack(7, 5, 0))
	r.view(0, api.Note{})
	r.expect("of version 0", r.step(r.note(7, 6, api.Note{User: 5})), r.ack(7, 6, 0))
	r.view(5, api.Note{})
	r.expect("of itself", r.step(r.note(7, 7, note(4, 1))), r.ack(7, 7, 0))
	r.view(4, note(4, 1))
	r.expect("newer", r.step(r.note(7, 8, note(3, 9))), r.ack(7, 8, 0))
	r.view(3, note(3, 9))
	r.expect("too far ahead", r.step(r.note(7, 17, note(3, 10))), r.ack(7, 8, 0))
	r.expect("just not", r.step(r.note(7, 16, note(3, 11))), r.ack(7, 8, 64))
	r.view(3, note(3, 9))
	r.code(api.OK)
}

func TestP22_4_NotifyRefused(t *testing.T) {
	for state, r := range states(t) {
		if state != api.On {
			for _, session := range []int{7, 1} {
				r.expect("in another state", r.step(r.note(session, 1, note(3, 5))))
			}
			r.view(3, api.Note{})
		}
	}
	r := on(t)
	bad := r.note(7, 1, note(3, 5))
	bad.Tag[0]++
	r.expect("with a wrong tag", r.step(bad))
	stolen, _ := tag.Sign([16]byte{}, bad)
	r.expect("by another key", r.step(stolen))
	r.expect("of another session", r.step(r.note(8, 1, note(3, 5))))
	r.view(3, api.Note{})
	r.expect("the right one", r.step(r.note(7, 1, note(3, 5))), r.ack(7, 1, 0))
}

func TestP22_4_Reply(t *testing.T) {
	r := on(t)
	r.expect("of no order", r.step(r.reply(7, 1, api.ErrState)))
	r.code(api.OK)
	r.order(status, asks)
	bad := r.reply(7, 1, api.ErrState)
	bad.Tag[7]++
	for _, p := range []api.Packet{bad, r.reply(8, 1, api.ErrState), r.reply(7, 2, api.ErrState), r.reply(7, api.MaxID, api.ErrState)} {
		r.expect("another reply", r.step(p))
		r.code(api.OK)
		r.waits(2)
	}
	r.expect("the reply", r.step(r.reply(7, 1, api.ErrState)))
	r.code(api.ErrState)
	r.waits(1)
	for _, p := range []api.Packet{r.reply(7, 1, api.ErrFull), r.reply(7, 3, api.ErrFull)} {
		r.expect("an old reply", r.step(p))
		r.code(api.ErrState)
		r.waits(1)
	}
	r.tick()
	r.expect("the second reply", r.step(r.reply(7, 2, api.OK)))
	r.code(api.OK)
	r.waits(0)
	r.is(api.On, 7)
	r.order(bye)
	r.expect("at once", r.tick(), r.sign(api.Packet{Kind: api.KindBye, Session: 7, Seq: 3}))
	for state, r := range states(t) {
		if state == api.Greet || state == api.Join {
			r.order(status)
			r.expect("in another state", r.step(r.reply(7, 1, api.ErrFull)))
			r.code(api.OK)
			r.waits(1)
		}
	}
}

func TestP22_4_Bye(t *testing.T) {
	r := filled(t)
	r.c.Crash()
	r = on(t)
	r.step(r.note(7, 1, note(3, 5)))
	r.order(bye, status)
	r.tick()
	r.expect("a reply", r.step(r.reply(7, 1, 9)))
	r.is(api.Off, 0)
	r.code(9)
	r.waits(0)
	r.view(3, note(3, 5))
	r.expect("off", r.tick())
	if r.c.Order(status) {
		t.Error("ordered, and off")
	}
	r.c.Start(50)
	r.view(3, api.Note{})
	r.code(api.OK)
	r.expect("at once", r.tick(), api.Packet{Kind: api.KindHello, Nonce: 50})
	r.expect("the user stays", r.step(api.Packet{Kind: api.KindCookie, Nonce: 50}), api.Packet{Kind: api.KindConnect, User: 4, Nonce: 50})
}

func TestP22_5_View(t *testing.T) {
	r := filled(t)
	for _, user := range []int{api.MinInt, -1, 0, 1, 2, 4, 16, 17, api.MaxInt} {
		r.view(user, api.Note{})
	}
	for user := 1; user <= 16; user++ {
		r.step(r.note(7, 1+user, note(user, 50+user)))
	}
	for user := 1; user <= 16; user++ {
		r.view(user, note(user, 50+user))
	}
}

func TestP22_6_Memory(t *testing.T) {
	r := on(t)
	r.order(status)
	var rows [][]byte
	for range 9 {
		rows = append(rows, r.c.Tick()...)
	}
	for i, p := range []api.Packet{r.note(7, 1, note(3, 5)), r.note(7, 1, note(3, 5)), r.reply(7, 1, 0)} {
		laid, _ := wire.Encode(p)
		b, kept := probe.Roomy(laid, 7)
		got := r.c.Step(b)
		if !kept() {
			t.Errorf("case %d: what is handed in is changed", i)
		}
		for _, x := range got {
			if probe.Shares(x, b) {
				t.Errorf("case %d: memory is shared", i)
			}
		}
		rows = append(rows, got...)
	}
	for i, a := range rows {
		for _, b := range rows[:i] {
			if probe.Shares(a, b) {
				t.Error("two answers share memory")
			}
		}
	}
	if len(rows) < 6 {
		t.Errorf("only %d answers", len(rows))
	}
}

func TestP22_7_ViewsRise(t *testing.T) {
	rnd := rand.New(rand.NewSource(26))
	other := [16]byte{5}
	for range 30 {
		r := on(t)
		views := map[int]api.Note{}
		next := 1
		for range 300 {
			n := api.Note{User: rnd.Intn(4), Version: rnd.Intn(50), Status: rnd.Intn(4), Count: rnd.Intn(5)}
			if n.User == 0 {
				n = api.Note{}
			}
			p := r.note(7, max(1, next+rnd.Intn(5)-2), n)
			good := true
			if rnd.Intn(3) == 0 {
				p, _ = tag.Sign(other, p)
				good = false
			}
			if r.step(p); !good {
				for user, old := range views {
					r.view(user, old)
				}
				continue
			}
			for user := 1; user <= 3; user++ {
				now, ok := r.c.View(user)
				if !ok {
					continue
				}
				if old, had := views[user]; had && now != old && now.Version <= old.Version || now.Version == 0 || now.User != user {
					t.Fatalf("%+v becomes %+v", old, now)
				}
				views[user] = now
			}
			if p.Seq == next {
				next++
			}
		}
	}
}

func TestP22_Example(t *testing.T) {
	r := start(t, 1, 3)
	r.expect("a tick", r.tick(), api.Packet{Kind: api.KindHello, Nonce: 3})
	r.expect("a cookie", r.step(api.Packet{Kind: api.KindCookie, Nonce: 3, Epoch: 2, Secret: cookie}), api.Packet{Kind: api.KindConnect, User: 1, Nonce: 3, Epoch: 2, Secret: cookie})
	r.expect("an accept", r.step(api.Packet{Kind: api.KindAccept, Session: 6, Nonce: 3, Secret: key}))
	r.is(api.On, 6)
	r.expect("a beat", r.tick(), r.beat(6, 1))
}

// TestNotMade says that a client that New did not make does not panic.
func TestNotMade(t *testing.T) {
	r := rig{t, new(client.Client)}
	r.c.Crash()
	r.c.Start(3)
	r.tick()
	r.expect("of no user", r.step(api.Packet{Kind: api.KindCookie, Nonce: 3}))
	r.step(api.Packet{Kind: api.KindAccept, Session: 6, Nonce: 3, Secret: key})
	r.step(r.note(6, 1, note(3, 1)))
	r.view(3, note(3, 1))
}
