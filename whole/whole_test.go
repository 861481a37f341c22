// Package whole_test holds the program to the promises of the whole: T1 to T5.
package whole_test

import (
	"math/rand"
	"slices"
	"testing"

	"nightjar/api"
	"nightjar/board"
	"nightjar/channel"
	"nightjar/cookie"
	"nightjar/fanout"
	"nightjar/ghost"
	"nightjar/roster"
	"nightjar/script"
	"nightjar/server"
	"nightjar/session"
	"nightjar/tag"
	"nightjar/timer"
	"nightjar/wire"
	"nightjar/world"
)

var secret = []byte("a secret")

// some is acts of any bytes, as many as they are.
func some(rnd *rand.Rand, acts int) []api.Act {
	b := make([]byte, 4*acts)
	rnd.Read(b)
	return script.Acts(b)
}

// calm is acts like these, with fewer by which somebody goes, or may watch no longer.
func calm(rnd *rand.Rand, acts []api.Act) []api.Act {
	return slices.DeleteFunc(acts, func(a api.Act) bool {
		goes := a.Do == api.DoCrash || a.Do == api.DoStart || a.Order.Kind == api.KindBye
		parts := a.Order.Kind == api.KindRoster && a.Order.Op != api.OpAsk && a.Order.Op != api.OpApprove
		return (goes || parts) && rnd.Intn(20) > 0
	})
}

// friends are orders by which each client asks each other one, and all approve.
func friends() []api.Act {
	var l []api.Act
	for _, op := range []int{api.OpAsk, api.OpApprove} {
		for who := 1; who <= api.Clients; who++ {
			for user := 1; user <= api.Clients; user++ {
				if user != who {
					l = append(l, api.Act{Do: api.DoOrder, Who: who, Order: api.Order{Kind: api.KindRoster, Op: op, User: user}})
				}
			}
		}
	}
	return l
}

// begin starts all clients, and lets them watch each other.
func begin() *world.World {
	w := world.New(secret)
	for who := 1; who <= api.Clients; who++ {
		w.Do(api.Act{Do: api.DoStart, Who: who, K: 1000 * who})
	}
	w.Run(friends()...)
	w.Quiet(20)
	return w
}

// each runs a check against many worlds: wild ones, and calm ones whose clients watch each other.
func each(t *testing.T, seeds, acts int, check func(t *testing.T, rnd *rand.Rand, w *world.World, l []api.Act)) {
	t.Helper()
	for seed := range seeds {
		rnd := rand.New(rand.NewSource(int64(seed)))
		if seed%2 == 0 {
			check(t, rnd, world.New(secret), some(rnd, acts))
		} else {
			check(t, rnd, begin(), calm(rnd, some(rnd, acts)))
		}
	}
}

// views are what a client believes, by users; zero where it believes nothing.
func views(w *world.World, who int) [api.MaxUser + 1]api.Note {
	var l [api.MaxUser + 1]api.Note
	for user := range l {
		l[user], _ = w.Client(who).View(user)
	}
	return l
}

func TestT1_Safe(t *testing.T) {
	believed := 0
	each(t, 100, 1500, func(t *testing.T, rnd *rand.Rand, w *world.World, l []api.Act) {
		g := ghost.New()
		var old [api.Clients + 1][api.MaxUser + 1]api.Note
		for who := 1; who <= api.Clients; who++ {
			old[who] = views(w, who)
			for _, n := range old[who] {
				g.Look(earlier(w.Server().Board(), n))
			}
		}
		for _, a := range l {
			done := w.Do(a)
			g.Look(w.Server().Board())
			for who := 1; who <= api.Clients; who++ {
				now := views(w, who)
				if !g.Fine(now[:]...) {
					t.Fatalf("%d believes what never was: %+v", who, now)
				}
				forgets := done && a.Who == who && (a.Do == api.DoStart || a.Do == api.DoCrash)
				for user, n := range now {
					if n != old[who][user] && n.Version <= old[who][user].Version && !forgets {
						t.Fatalf("%d believed %+v, and now %+v", who, old[who][user], n)
					}
					if n.Version > old[who][user].Version {
						believed++
					}
				}
				old[who] = now
			}
			folds(t, w)
		}
	})
	if believed < 200 {
		t.Errorf("only %d views", believed)
	}
}

// earlier is a board of what n tells alone, so that a ghost that comes late knows it, too.
func earlier(b api.Board, n api.Note) api.Board {
	var one api.Board
	if b[n.User].Version > n.Version {
		one[n.User] = api.Entry{Version: n.Version, Status: n.Status, Count: n.Count}
	}
	return one
}

// folds says whether each entry is the fold of the sessions.
func folds(t *testing.T, w *world.World) {
	t.Helper()
	b, l := w.Server().Board(), w.Server().Sessions()
	for user := 1; user <= api.MaxUser; user++ {
		status, count := board.Fold(session.Statuses(l, user)...)
		if b[user].Status != status || b[user].Count != count {
			t.Fatalf("the entry of %d is %+v, not %d, %d", user, b[user], status, count)
		}
	}
}

// settled says whether all clients are On or Off, nobody else is there, and each believes what is so.
func settled(t *testing.T, w *world.World) {
	t.Helper()
	l := w.Server().Sessions()
	on := 0
	for who := 1; who <= api.Clients; who++ {
		c := w.Client(who)
		if c.State() == api.Off {
			continue
		}
		on++
		one, ok := session.Find(l, c.Session())
		if c.State() != api.On || !ok || one.User != who || one.Addr != who {
			t.Fatalf("the client %d is in the state %d, with the session %d: %+v", who, c.State(), c.Session(), l)
		}
		for _, target := range roster.Targets(w.Server().Rels(), who) {
			want := board.Note(w.Server().Board(), target)
			if got, ok := c.View(target); got != want && (ok || want.Version > 0) {
				t.Fatalf("%d believes of %d: %+v, not %+v", who, target, got, want)
			}
		}
	}
	if len(l) != on {
		t.Fatalf("%d are On, and there are %+v", on, l)
	}
}

func TestT2_Live(t *testing.T) {
	watched := 0
	each(t, 40, 1000, func(t *testing.T, rnd *rand.Rand, w *world.World, l []api.Act) {
		w.Run(l...)
		w.Quiet(120)
		settled(t, w)
		for range 60 {
			w.Quiet(1)
			settled(t, w)
		}
		watched += len(roster.Targets(w.Server().Rels(), 1+rnd.Intn(3)))
	})
	if watched == 0 {
		t.Error("nobody watches anybody")
	}
}

func TestT3_Complete(t *testing.T) {
	each(t, 30, 800, func(t *testing.T, rnd *rand.Rand, w *world.World, l []api.Act) {
		gone, last := map[int]bool{}, map[int]bool{}
		see := func() {
			t.Helper()
			now := map[int]bool{}
			for _, one := range w.Server().Sessions() {
				if now[one.ID] = true; gone[one.ID] {
					t.Fatalf("the session %d is there again", one.ID)
				}
			}
			for id := range last {
				if !now[id] {
					gone[id] = true
				}
			}
			last = now
		}
		for _, a := range l {
			w.Do(a)
			see()
		}
		silent := 1 + rnd.Intn(api.Clients)
		w.Do(api.Act{Do: api.DoCrash, Who: silent})
		for range 49 {
			w.Do(api.Act{Do: api.DoTick})
			for w.Net().Len() > 0 {
				if d := w.Net().All()[0]; d.From == silent {
					w.Do(api.Act{Do: api.DoLose})
				} else {
					w.Do(api.Act{Do: api.DoCome})
				}
			}
			see()
		}
		if len(session.Of(w.Server().Sessions(), silent)) != 0 {
			t.Fatalf("%d is there for 49 ticks", silent)
		}
		w.Do(api.Act{Do: api.DoStart, Who: silent, K: 5})
		w.Quiet(10)
		if see(); w.Client(silent).State() != api.On || gone[w.Client(silent).Session()] {
			t.Fatalf("who returns is in the state %d, with the session %d", w.Client(silent).State(), w.Client(silent).Session())
		}
	})
}

// state is all that a server has, but for the time.
type state struct {
	sessions []api.Session
	rels     []api.Rel
	board    api.Board
	fan      api.Fan
	timers   []api.Timer
}

func stateOf(s *server.Server) state {
	return state{s.Sessions(), s.Rels(), s.Board(), s.Fan(), s.Timers()}
}

func same(a, b state) bool {
	return session.Same(a.sessions, b.sessions) && slices.Equal(a.rels, b.rels) && a.board == b.board &&
		fanout.Same(a.fan, b.fan) && slices.Equal(a.timers, b.timers)
}

// good says whether bytes are a connect with a cookie that is good, or signed by a session's key and from its address.
func good(s *server.Server, from int, b []byte) bool {
	p, err := wire.Decode(b)
	if err != api.OK {
		return false
	}
	if p.Kind == api.KindConnect {
		return cookie.Check(secret, from, p.Nonce, p.Epoch, s.Now()/api.EpochLen, p.Secret) == api.OK
	}
	one, ok := session.Find(s.Sessions(), p.Session)
	return ok && one.Addr == from && tag.Good(one.Key, p)
}

// forged is bytes that somebody makes of what is on its way.
func forged(rnd *rand.Rand, w *world.World) (int, []byte) {
	from, b := 1+rnd.Intn(4), []byte{byte(rnd.Intn(13)), byte(rnd.Intn(2)), 0, 0, 1}
	if l := w.Net().All(); len(l) > 0 && rnd.Intn(6) > 0 {
		d := l[rnd.Intn(len(l))]
		from, b = d.From, d.Bytes
	}
	switch rnd.Intn(4) {
	case 0:
		from = rnd.Intn(5)
	case 1, 2:
		if len(b) > 0 {
			b[rnd.Intn(len(b))] ^= 1 << rnd.Intn(8)
		}
	case 3:
		b = b[:rnd.Intn(len(b)+1)]
	}
	return from, b
}

func TestT4_Secure(t *testing.T) {
	tried, answered := 0, 0
	each(t, 30, 700, func(t *testing.T, rnd *rand.Rand, w *world.World, l []api.Act) {
		s := w.Server()
		for _, a := range l {
			w.Do(a)
			from, b := forged(rnd, w)
			if good(s, from, b) {
				continue
			}
			before := stateOf(s)
			tried++
			if len(s.Step(from, b)) > 0 {
				answered++
			}
			if after := stateOf(s); !same(before, after) {
				t.Fatalf("%v from %d changes something: %+v, %+v", b, from, before, after)
			}
		}
	})
	if tried < 5000 || answered < 500 {
		t.Errorf("only %d tries, %d answers", tried, answered)
	}
}

// notes is how many notes are on their way.
func notes(w *world.World) int {
	many := 0
	for _, d := range w.Net().All() {
		if p, _ := wire.Decode(d.Bytes); p.Kind == api.KindNotify {
			many++
		}
	}
	return many
}

// bounded says whether all is within its limits.
func bounded(t *testing.T, w *world.World) {
	t.Helper()
	x := stateOf(w.Server())
	if !session.Right(x.sessions) || !roster.Right(x.rels) || !fanout.Right(x.fan) || !timer.Right(x.timers) {
		t.Fatalf("not right: %+v", x)
	}
	for _, one := range x.sessions {
		if !channel.Right(one.Chan) || len(one.Chan.Send.Flights) > api.Window {
			t.Fatalf("not right: %+v", one)
		}
	}
	if w.Net().Len() > api.MaxNet {
		t.Fatalf("%d datagrams wait", w.Net().Len())
	}
	for who := 1; who <= api.Clients; who++ {
		if w.Client(who).Waits() > api.MaxOrders {
			t.Fatalf("%d orders wait", w.Client(who).Waits())
		}
	}
}

func TestT5_Bounds(t *testing.T) {
	busiest := 0
	each(t, 30, 1500, func(t *testing.T, rnd *rand.Rand, w *world.World, l []api.Act) {
		for _, a := range l {
			before, lost := notes(w), w.Net().Lost()
			w.Do(a)
			bounded(t, w)
			if sent := notes(w) - before; a.Do == api.DoTick && w.Net().Lost() == lost {
				if busiest = max(busiest, sent); sent > api.Budget {
					t.Fatalf("%d notes are sent in a tick", sent)
				}
			}
		}
	})
	if busiest < 2 {
		t.Errorf("never more than %d notes in a tick", busiest)
	}
}

func believes(t *testing.T, w *world.World, who int, want api.Note) {
	t.Helper()
	if got, ok := w.Client(who).View(want.User); got != want || !ok {
		t.Fatalf("%d believes %+v, not %+v", who, got, want)
	}
}

// TestExample is the document's 'An example of the whole'.
func TestExample(t *testing.T) {
	w := world.New(secret)
	w.Run(api.Act{Do: api.DoStart, Who: 1, K: 1000}, api.Act{Do: api.DoStart, Who: 2, K: 2000})
	if w.Quiet(5); w.Client(1).State() != api.On || w.Client(2).State() != api.On {
		t.Fatal("not On")
	}
	w.Do(api.Act{Do: api.DoOrder, Who: 1, Order: api.Order{Kind: api.KindRoster, Op: api.OpAsk, User: 2}})
	w.Quiet(8)
	w.Do(api.Act{Do: api.DoOrder, Who: 2, Order: api.Order{Kind: api.KindRoster, Op: api.OpApprove, User: 1}})
	w.Quiet(8)
	believes(t, w, 1, api.Note{User: 2, Version: 1, Status: 3, Count: 1})
	w.Do(api.Act{Do: api.DoCrash, Who: 2})
	w.Quiet(60)
	believes(t, w, 1, api.Note{User: 2, Version: 2})
}
