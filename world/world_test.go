package world_test

import (
	"bytes"
	"math/rand"
	"slices"
	"testing"

	"nightjar/api"
	"nightjar/board"
	"nightjar/client"
	"nightjar/net"
	"nightjar/probe"
	"nightjar/roster"
	"nightjar/server"
	"nightjar/session"
	"nightjar/wire"
	"nightjar/world"
)

var secret = []byte("a secret")

func starts(who, k int) api.Act {
	return api.Act{Do: api.DoStart, Who: who, K: k}
}

func crash(who int) api.Act {
	return api.Act{Do: api.DoCrash, Who: who}
}

func order(who int, o api.Order) api.Act {
	return api.Act{Do: api.DoOrder, Who: who, Order: o}
}

func inject(who int, b ...byte) api.Act {
	return api.Act{Do: api.DoInject, Who: who, Bytes: b}
}

func come(k int) api.Act {
	return api.Act{Do: api.DoCome, K: k}
}

// busy is a world with three clients that are On, and watch each other.
func busy(t *testing.T) *world.World {
	t.Helper()
	w := world.New(secret)
	w.Run(starts(1, 1000), starts(2, 2000), starts(3, 3000))
	w.Quiet(6)
	for a := 1; a <= 3; a++ {
		w.Do(order(a, api.Order{Kind: api.KindRoster, Op: api.OpAsk, User: a%3 + 1}))
	}
	w.Quiet(8)
	for a := 1; a <= 3; a++ {
		w.Do(order(a, api.Order{Kind: api.KindRoster, Op: api.OpApprove, User: (a+1)%3 + 1}))
	}
	w.Quiet(8)
	for a := 1; a <= 3; a++ {
		if w.Client(a).State() != api.On || len(roster.Targets(w.Server().Rels(), a)) != 1 {
			t.Fatalf("the client %d is %d, and the row %v", a, w.Client(a).State(), w.Server().Rels())
		}
	}
	return w
}

func alike(a, b api.Dgram) bool {
	return a.From == b.From && a.To == b.To && bytes.Equal(a.Bytes, b.Bytes)
}

// kinds is from where, to where, and of which kind the datagrams are that wait.
func kinds(w *world.World) [][3]int {
	var l [][3]int
	for _, d := range w.Net().All() {
		p, _ := wire.Decode(d.Bytes)
		l = append(l, [3]int{d.From, d.To, p.Kind})
	}
	return l
}

func expect(t *testing.T, w *world.World, want ...[3]int) {
	t.Helper()
	if got := kinds(w); !slices.Equal(got, want) {
		t.Fatalf("on their way: %v, not %v", got, want)
	}
}

func TestP24_1_New(t *testing.T) {
	mine, kept := probe.Roomy(secret, 7)
	w := world.New(mine)
	mine[0]++
	hello, _ := wire.Encode(api.Packet{Kind: api.KindHello, Nonce: 5})
	got, want := w.Server().Step(9, hello), server.New(secret).Step(9, hello)
	if len(got) != 1 || !bytes.Equal(got[0].Bytes, want[0].Bytes) {
		t.Error("another secret, or a secret that is kept")
	}
	if mine[0]--; !kept() {
		t.Error("the secret is changed")
	}
	if w.Server() != w.Server() || w.Net() != w.Net() || w.Net().Len() != 0 || w.Server().Now() != 0 {
		t.Error("not the same, or not new")
	}
	for who := 1; who <= 3; who++ {
		c := w.Client(who)
		if c == nil || c != w.Client(who) || c.State() != api.Off {
			t.Fatalf("the client %d is not one", who)
		}
		c.Start(7)
		cookie, _ := wire.Encode(api.Packet{Kind: api.KindCookie, Nonce: 7})
		if p, _ := wire.Decode(c.Step(cookie)[0]); p.User != who {
			t.Errorf("the user of %d is %d", who, p.User)
		}
	}
	for _, who := range []int{api.MinInt, -1, 0, 4, 5, api.MaxInt} {
		if w.Client(who) != nil {
			t.Errorf("there is a client %d", who)
		}
	}
}

func TestP24_2_Tick(t *testing.T) {
	w := world.New(secret)
	w.Run(starts(3, 30), starts(1, 10))
	if !w.Do(api.Act{Do: api.DoTick}) || w.Server().Now() != 1 {
		t.Error("no tick")
	}
	expect(t, w, [3]int{1, 0, api.KindHello}, [3]int{3, 0, api.KindHello})
	w = busy(t)
	for w.Net().Lose(0) {
	}
	for _, status := range []int{2, 1, 2, 1} {
		w.Do(order(2, api.Order{Kind: api.KindStatus, Status: status}))
	}
	now := w.Server().Now()
	both := 0
	for range 8 {
		w.Do(api.Act{Do: api.DoTick})
		l := kinds(w)
		if !slices.IsSortedFunc(l, func(a, b [3]int) int { return a[0] - b[0] }) {
			t.Fatalf("not in order: %v", l)
		}
		if len(l) > 1 && l[0][0] == 0 && l[len(l)-1][0] > 0 {
			both++
		}
		for w.Do(come(0)) {
		}
	}
	if both == 0 {
		t.Error("the server and a client never send in one tick")
	}
	if w.Server().Now() != now+8 || w.Server().Board()[2].Status != 1 {
		t.Error("no ticks")
	}
}

func TestP24_2_Come(t *testing.T) {
	w := world.New(secret)
	if w.Do(come(0)) || w.Do(come(-5)) {
		t.Error("something comes, and nothing waits")
	}
	w.Run(starts(1, 10), starts(2, 20), api.Act{Do: api.DoTick})
	expect(t, w, [3]int{1, 0, api.KindHello}, [3]int{2, 0, api.KindHello})
	if !w.Do(come(1)) {
		t.Error("nothing comes")
	}
	expect(t, w, [3]int{1, 0, api.KindHello}, [3]int{0, 2, api.KindCookie})
	if !w.Do(come(-1)) || w.Client(2).State() != api.Join {
		t.Error("nothing comes")
	}
	expect(t, w, [3]int{1, 0, api.KindHello}, [3]int{2, 0, api.KindConnect})
	w.Do(come(1))
	expect(t, w, [3]int{1, 0, api.KindHello}, [3]int{0, 2, api.KindAccept})
	w.Do(come(1))
	if w.Client(2).State() != api.On || w.Client(1).State() != api.Greet {
		t.Error("not On")
	}
	expect(t, w, [3]int{1, 0, api.KindHello})
	w.Do(inject(9, 1, 0, 0, 0, 5))
	w.Do(come(1))
	expect(t, w, [3]int{1, 0, api.KindHello}, [3]int{0, 9, api.KindCookie})
	if !w.Do(come(1)) {
		t.Error("what goes to nobody does not come")
	}
	expect(t, w, [3]int{1, 0, api.KindHello})
}

func TestP24_2_LoseAndTwice(t *testing.T) {
	w := world.New(secret)
	for _, do := range []int{api.DoLose, api.DoTwice} {
		if w.Do(api.Act{Do: do}) {
			t.Errorf("%d of none", do)
		}
	}
	w.Run(inject(5, 1), inject(6, 2))
	if !w.Do(api.Act{Do: api.DoTwice, K: -2}) || !w.Do(api.Act{Do: api.DoLose, K: 1}) {
		t.Error("false")
	}
	expect(t, w, [3]int{5, 0, 0}, [3]int{5, 0, 0})
	if w.Net().Lost() != 1 {
		t.Errorf("%d are lost", w.Net().Lost())
	}
}

func TestP24_2_Clients(t *testing.T) {
	w := world.New(secret)
	for _, who := range []int{api.MinInt, -1, 0, 4, api.MaxInt} {
		for _, do := range []int{api.DoStart, api.DoCrash, api.DoOrder} {
			if w.Do(api.Act{Do: do, Who: who, Order: api.Order{Kind: api.KindBye}}) {
				t.Errorf("%d of %d", do, who)
			}
		}
	}
	bye := api.Order{Kind: api.KindBye}
	for who := 1; who <= 3; who++ {
		if w.Do(order(who, bye)) || w.Do(starts(who, -1)) || w.Do(starts(who, api.MaxID+1)) || !w.Do(crash(who)) || w.Client(who).State() != api.Off {
			t.Errorf("the client %d does what it can't", who)
		}
		if !w.Do(starts(who, 5)) || w.Client(who).State() != api.Greet || w.Do(order(who, api.Order{})) || !w.Do(order(who, bye)) || w.Client(who).Waits() != 1 {
			t.Errorf("the client %d does not", who)
		}
		for other := who + 1; other <= 3; other++ {
			if w.Client(other).State() != api.Off {
				t.Errorf("the client %d does, too", other)
			}
		}
	}
	if !w.Do(crash(2)) || w.Client(2).State() != api.Off || w.Client(1).State() != api.Greet || w.Client(3).State() != api.Greet {
		t.Error("the wrong one crashes")
	}
}

func TestP24_2_InjectAndOthers(t *testing.T) {
	w := world.New(secret)
	for _, who := range []int{api.MinInt, -1, 0, 65536, api.MaxInt} {
		if w.Do(inject(who, 1)) {
			t.Errorf("injected from %d", who)
		}
	}
	for _, do := range []int{api.MinInt, -1, 8, 9, api.MaxInt} {
		if w.Do(api.Act{Do: do, Who: 1, K: 5, Bytes: []byte{1}}) {
			t.Errorf("does %d", do)
		}
	}
	if w.Net().Len() != 0 || w.Server().Now() != 0 || w.Client(1).State() != api.Off {
		t.Error("something happens")
	}
	if !w.Do(inject(1, 7, 8)) || !w.Do(inject(65535)) {
		t.Error("not injected")
	}
	if got := w.Net().All(); len(got) != 2 || !alike(got[0], api.Dgram{From: 1, Bytes: []byte{7, 8}}) || !alike(got[1], api.Dgram{From: 65535}) {
		t.Errorf("injected: %v", got)
	}
}

func TestP24_3_Run(t *testing.T) {
	w := world.New(secret)
	if w.Run() != 0 || w.Run(come(0), crash(0)) != 0 {
		t.Error("Run tells what is not done")
	}
	if got := w.Run(starts(1, 5), starts(9, 5), api.Act{Do: api.DoTick}, come(0), come(0), come(0), come(0), come(0)); got != 6 {
		t.Errorf("Run is %d", got)
	}
	if w.Client(1).State() != api.On {
		t.Error("not in order")
	}
}

func TestP24_3_Quiet(t *testing.T) {
	w := world.New(secret)
	for _, x := range [][2]int{{api.MinInt, 0}, {-1, 0}, {0, 0}, {1, 1}, {5, 6}, {1000, 1006}, {1001, 2006}, {api.MaxInt, 3006}} {
		if w.Quiet(x[0]); w.Server().Now() != x[1] {
			t.Fatalf("behind %d rounds it is %d", x[0], w.Server().Now())
		}
	}
	w = world.New(secret)
	w.Do(starts(1, 10))
	for k, want := range [][3]int{{0, 1, api.KindCookie}, {1, 0, api.KindConnect}, {0, 1, api.KindAccept}} {
		w.Quiet(1)
		if got := kinds(w); !slices.Equal(got, [][3]int{want}) {
			t.Fatalf("behind round %d: %v", k+1, got)
		}
	}
	if w.Quiet(1); w.Client(1).State() != api.On {
		t.Error("not On")
	}
}

// TestP24_3_QuietIsActs holds Quiet against the acts that it is.
func TestP24_3_QuietIsActs(t *testing.T) {
	a, b := busy(t), busy(t)
	for range 30 {
		a.Quiet(1)
		b.Do(api.Act{Do: api.DoTick})
		for n := b.Net().Len(); n > 0; n-- {
			b.Do(come(0))
		}
		if !slices.EqualFunc(a.Net().All(), b.Net().All(), alike) || !session.Same(a.Server().Sessions(), b.Server().Sessions()) {
			t.Fatal("not alike")
		}
	}
}

func TestP24_4_Memory(t *testing.T) {
	w := world.New(secret)
	b, kept := probe.Roomy([]byte{1, 2}, 7)
	l := []api.Act{{Do: api.DoInject, Who: 5, Bytes: b}, crash(1), crash(2)}
	if w.Run(l[:2]...); !kept() || l[2].Who != 2 {
		t.Error("what is handed in is changed")
	}
	b[0] = 9
	if got := w.Net().All(); !bytes.Equal(got[0].Bytes, []byte{1, 2}) {
		t.Error("what is handed in is kept")
	}
}

func TestP24_Example(t *testing.T) {
	w := world.New(nil)
	w.Run(starts(1, 1000), starts(2, 2000))
	if w.Quiet(5); w.Client(1).State() != api.On || w.Client(2).State() != api.On || w.Client(3).State() != api.Off {
		t.Error("not On")
	}
}

// model is a world of its own parts, which does by hand what the chapter says of acts.
type model struct {
	s *server.Server
	c []*client.Client
	n *net.Net
}

func (m model) do(a api.Act) {
	outs := func(l []api.Out) {
		for _, o := range l {
			m.n.Send(api.Dgram{From: 0, To: o.To, Bytes: o.Bytes})
		}
	}
	rows := func(who int, l [][]byte) {
		for _, b := range l {
			m.n.Send(api.Dgram{From: who, To: 0, Bytes: b})
		}
	}
	switch a.Do {
	case 0:
		outs(m.s.Tick())
		for i, c := range m.c {
			rows(i+1, c.Tick())
		}
	case 1:
		d, ok := m.n.Take(a.K)
		if ok && d.To == 0 {
			outs(m.s.Step(d.From, d.Bytes))
		} else if ok && d.To <= 3 {
			rows(d.To, m.c[d.To-1].Step(d.Bytes))
		}
	case 2:
		m.n.Lose(a.K)
	case 3:
		m.n.Twice(a.K)
	case 4:
		m.c[a.Who-1].Start(a.K)
	case 5:
		m.c[a.Who-1].Crash()
	case 6:
		m.c[a.Who-1].Order(a.Order)
	case 7:
		rows(a.Who, [][]byte{a.Bytes})
	}
}

// act is any act of the clients and the net.
func act(rnd *rand.Rand) api.Act {
	who := 1 + rnd.Intn(3)
	switch rnd.Intn(24) {
	case 0:
		return starts(who, rnd.Intn(5))
	case 1:
		return crash(who)
	case 2, 3:
		op := []int{1, 1, 1, 2, 3, 3, 3, 4, 5, 6, 7}[rnd.Intn(11)]
		return order(who, api.Order{Kind: api.KindRoster, Op: op, User: 1 + rnd.Intn(3)})
	case 4:
		return order(who, api.Order{Kind: api.KindStatus, Status: 1 + rnd.Intn(3)})
	case 5:
		return inject(who, byte(rnd.Intn(13)), byte(rnd.Intn(3)))
	case 6:
		return api.Act{Do: api.DoLose, K: rnd.Intn(9)}
	case 7:
		return api.Act{Do: api.DoTwice, K: rnd.Intn(9)}
	case 8:
		if rnd.Intn(4) == 0 {
			return order(who, api.Order{Kind: api.KindBye})
		}
	case 9, 10, 11, 12, 13:
		return api.Act{Do: api.DoTick}
	}
	return come(rnd.Intn(5))
}

// believesRight says whether each client believes what the server says, as far as it may.
func believesRight(t *testing.T, w *world.World) {
	t.Helper()
	for who := 1; who <= 3; who++ {
		if w.Client(who).State() != api.On {
			continue
		}
		for _, target := range roster.Targets(w.Server().Rels(), who) {
			want := board.Note(w.Server().Board(), target)
			if got, ok := w.Client(who).View(target); ok != (want.Version > 0) || ok && got != want {
				t.Fatalf("%d believes of %d: %+v, not %+v", who, target, got, want)
			}
		}
	}
}

func TestP24_5_Random(t *testing.T) {
	for seed := range 20 {
		rnd := rand.New(rand.NewSource(int64(seed)))
		w := world.New(secret)
		m := model{server.New(secret), []*client.Client{client.New(1), client.New(2), client.New(3)}, net.New()}
		had := map[api.Note]bool{}
		for range 1200 {
			a := act(rnd)
			w.Do(a)
			m.do(a)
			if !slices.EqualFunc(w.Net().All(), m.n.All(), alike) || !session.Same(w.Server().Sessions(), m.s.Sessions()) {
				t.Fatalf("not what the chapter says of %+v", a)
			}
			for user := 1; user <= 3; user++ {
				had[board.Note(w.Server().Board(), user)] = true
			}
			for who := 1; who <= 3; who++ {
				for user := 1; user <= 3; user++ {
					if n, ok := w.Client(who).View(user); ok && !had[n] {
						t.Fatalf("%d believes %+v, which never was", who, n)
					}
				}
			}
		}
		w.Quiet(120)
		believesRight(t, w)
	}
}

func TestNotMade(t *testing.T) {
	w := new(world.World)
	w.Run(starts(1, 5), api.Act{Do: api.DoTick})
	w.Quiet(5)
	if w.Server().Now() != 6 || w.Client(1) == nil || w.Net() == nil {
		t.Error("a world that New did not make does nothing")
	}
}
