package channel_test

import (
	"math/rand"
	"slices"
	"testing"

	"nightjar/api"
	"nightjar/channel"
	"nightjar/probe"
	"nightjar/rtt"
	"nightjar/send"
)

func note(user int) api.Note {
	return api.Note{User: user, Version: 5, Status: 2, Count: 1}
}

// busy is a channel with three flights, sent at 10, 20 and 30, and an Rtt of its own.
func busy() api.Chan {
	return api.Chan{
		Send: api.Send{Next: 5, Cwnd: 6, Acc: 2, Flights: []api.Flight{{Seq: 1, Note: note(1), At: 10, Tries: 1}, {Seq: 3, Note: note(2), At: 20, Tries: 2}, {Seq: 4, Note: note(1), At: 30, Tries: 1}}},
		Rtt:  api.Rtt{S: 80, V: 20, Rto: 15, Fails: 3, Has: true},
	}
}

func TestP12_1_StartRightSame(t *testing.T) {
	c := channel.Start()
	if !send.Same(c.Send, send.Start()) || c.Rtt != rtt.Start() || !channel.Right(c) || !channel.Same(c, channel.Start()) {
		t.Errorf("Start is %+v", c)
	}
	if !channel.Right(busy()) || !channel.Same(busy(), busy()) {
		t.Error("not right, or not the same")
	}
	others := []func(c *api.Chan){
		func(c *api.Chan) { c.Send.Next++ }, func(c *api.Chan) { c.Send.Cwnd++ }, func(c *api.Chan) { c.Send.Acc++ },
		func(c *api.Chan) { c.Send.Flights[2].At++ }, func(c *api.Chan) { c.Send.Flights[0].Note.Count++ }, func(c *api.Chan) { c.Send.Flights = nil },
		func(c *api.Chan) { c.Rtt.S++ }, func(c *api.Chan) { c.Rtt.V++ }, func(c *api.Chan) { c.Rtt.Rto++ }, func(c *api.Chan) { c.Rtt.Fails++ },
	}
	for k, change := range others {
		c := busy()
		if change(&c); channel.Same(c, busy()) || channel.Same(busy(), c) || !channel.Right(c) {
			t.Errorf("case %d: the same, or not right: %+v", k, c)
		}
	}
	wrongs := []func(c *api.Chan){
		func(c *api.Chan) { c.Send.Next = 4 }, func(c *api.Chan) { c.Send.Cwnd = 0 }, func(c *api.Chan) { c.Send.Flights[2].Tries = 0 },
		func(c *api.Chan) { c.Rtt.Rto = 1 }, func(c *api.Chan) { c.Rtt.Has = false }, func(c *api.Chan) { *c = api.Chan{} },
		func(c *api.Chan) { c.Rtt = api.Rtt{} }, func(c *api.Chan) { c.Send = api.Send{} },
	}
	for k, change := range wrongs {
		c := busy()
		if change(&c); channel.Right(c) {
			t.Errorf("case %d: right: %+v", k, c)
		}
	}
}

func TestP12_2_OfTheSend(t *testing.T) {
	full := busy()
	full.Send.Cwnd = 3
	for _, c := range []api.Chan{channel.Start(), busy(), full} {
		if channel.Room(c) != send.Room(c.Send) {
			t.Errorf("Room of %+v is %d", c, channel.Room(c))
		}
		got, f, ok := channel.Push(c, note(7), 40)
		s, g, right := send.Push(c.Send, note(7), 40)
		if !channel.Same(got, api.Chan{Send: s, Rtt: c.Rtt}) || f != g || ok != right {
			t.Errorf("Push to %+v: %+v, %+v, %v", c, got, f, ok)
		}
		for user := range 4 {
			if got := channel.Void(c, user); !channel.Same(got, api.Chan{Send: send.Void(c.Send, user), Rtt: c.Rtt}) {
				t.Errorf("Void of %d: %+v", user, got)
			}
		}
	}
	one, _, _ := channel.Push(channel.Start(), note(1), 0)
	if !channel.Idle(channel.Start()) || channel.Idle(one) || channel.Idle(busy()) || !channel.Idle(channel.Ack(one, 1, 0, 1)) {
		t.Error("Idle is wrong")
	}
}

func TestP12_3_Ack(t *testing.T) {
	for k, x := range []struct{ ack, sack, now, took int }{
		{1, 0, 25, 15}, {4, 0, 40, 30}, {3, 0, 10, 0}, {2, 1, 31, 21}, {2, 2, 31, 21}, {1, 2, 32, 22},
		{0, 0, 40, -1}, {0, 2, 40, -1}, {-1, 127, 40, -1}, {5, 127, 40, -1}, {1, 0, 5, 0},
	} {
		want := busy()
		s, took := send.Acked(want.Send, x.ack, x.sack, x.now)
		if took != x.took {
			t.Errorf("case %d: Acked tells %d", k, took)
		}
		want.Send = s
		if x.took != -1 {
			want.Rtt = rtt.Sample(want.Rtt, x.took)
		}
		if got := channel.Ack(busy(), x.ack, x.sack, x.now); !channel.Same(got, want) {
			t.Errorf("case %d: %+v, not %+v", k, got, want)
		}
	}
}

func TestP12_4_Tick(t *testing.T) {
	for k, x := range []struct {
		now, most int
		want      []int
	}{
		{24, 4, nil}, {25, 4, []int{1}}, {34, 9, []int{1}}, {35, 9, []int{1, 3}}, {35, 2, []int{1, 3}}, {35, 1, []int{1}},
		{45, 3, []int{1, 3, 4}}, {45, 2, []int{1, 3}}, {45, api.MaxInt, []int{1, 3, 4}}, {45, 0, nil}, {45, -1, nil}, {45, api.MinInt, nil}, {0, 4, nil},
	} {
		want := busy()
		var flights []api.Flight
		if len(x.want) > 0 {
			want.Rtt.Rto, want.Rtt.Fails = 30, 4
			want.Send.Cwnd, want.Send.Acc = 3, 0
		}
		for i, f := range want.Send.Flights {
			if slices.Contains(x.want, f.Seq) {
				f.At = x.now
				f.Tries++
				want.Send.Flights[i] = f
				flights = append(flights, f)
			}
		}
		got, again := channel.Tick(busy(), x.now, x.most)
		if !channel.Same(got, want) || !slices.Equal(again, flights) {
			t.Errorf("case %d: %+v, %v", k, got, again)
		}
	}
}

func TestP12_4_Example(t *testing.T) {
	c, _, _ := channel.Push(channel.Start(), note(1), 0)
	var sent []int
	for now := 1; now <= 100; now++ {
		var again []api.Flight
		if c, again = channel.Tick(c, now, 4); len(again) > 0 {
			sent = append(sent, now)
		}
	}
	if !slices.Equal(sent, []int{8, 24, 56}) {
		t.Errorf("sent again at %v", sent)
	}
}

func TestP12_5_Memory(t *testing.T) {
	var flights []api.Flight
	calls := map[string]func(c api.Chan) api.Chan{
		"Push":         func(c api.Chan) api.Chan { got, _, _ := channel.Push(c, note(5), 40); return got },
		"Ack":          func(c api.Chan) api.Chan { return channel.Ack(c, 1, 2, 40) },
		"Ack, refused": func(c api.Chan) api.Chan { return channel.Ack(c, -1, 0, 40) },
		"Tick":         func(c api.Chan) (got api.Chan) { got, flights = channel.Tick(c, 90, 2); return got },
		"Tick of none": func(c api.Chan) (got api.Chan) { got, flights = channel.Tick(c, 0, 2); return got },
		"Void":         func(c api.Chan) api.Chan { return channel.Void(c, 1) },
		"asked":        func(c api.Chan) api.Chan { channel.Right(c); channel.Idle(c); channel.Room(c); return api.Chan{} },
	}
	for name, call := range calls {
		c := busy()
		l, kept := probe.Roomy(c.Send.Flights, api.Flight{Seq: 77})
		c.Send.Flights = l
		got := call(c)
		if !kept() {
			t.Errorf("%s: what was handed in is changed", name)
		}
		if probe.Shares(got.Send.Flights, l) || probe.Shares(flights, l) || probe.Shares(flights, got.Send.Flights) {
			t.Errorf("%s: memory is shared", name)
		}
	}
}

// TestP12_6_TillAcked sends over a net that loses: what was acknowledged is never sent again, all else is.
func TestP12_6_TillAcked(t *testing.T) {
	rnd := rand.New(rand.NewSource(18))
	for range 100 {
		c := channel.Start()
		acked := map[int]bool{}
		pushed, came := 0, map[int]bool{}
		for now := 1; now < 50000 && (pushed < 30 || !channel.Idle(c)); now++ {
			var out []api.Flight
			if c, out = channel.Tick(c, now, 1+rnd.Intn(4)); !channel.Right(c) {
				t.Fatalf("not right: %+v", c)
			}
			if channel.Room(c) > 0 && pushed < 30 {
				var f api.Flight
				c, f, _ = channel.Push(c, note(1), now)
				out = append(out, f)
				pushed++
			}
			for _, f := range out {
				if acked[f.Seq] {
					t.Fatalf("%d is sent again, and was acknowledged", f.Seq)
				}
				if rnd.Intn(2) == 0 {
					continue
				}
				came[f.Seq] = true
				last := 0
				for came[last+1] {
					last++
				}
				if rnd.Intn(3) > 0 {
					c = channel.Ack(c, last, 0, now)
					for seq := range last {
						acked[seq+1] = true
					}
				}
			}
			if !channel.Right(c) {
				t.Fatalf("not right: %+v", c)
			}
		}
		if len(came) != 30 || !channel.Idle(c) {
			t.Fatalf("%d came, idle %v", len(came), channel.Idle(c))
		}
	}
}
