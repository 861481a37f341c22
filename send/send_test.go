package send_test

import (
	"math/rand"
	"slices"
	"testing"

	"nightjar/api"
	"nightjar/probe"
	"nightjar/send"
)

const maxID = api.MaxID

func note(seq int) api.Note {
	return api.Note{User: seq%16 + 1, Version: seq, Status: 2, Count: 1}
}

func flight(seq, at, tries int) api.Flight {
	return api.Flight{Seq: seq, Note: note(seq), At: at, Tries: tries}
}

func row(next, cwnd, acc int, l ...api.Flight) api.Send {
	return api.Send{Next: next, Cwnd: cwnd, Acc: acc, Flights: l}
}

// ones is flights of these Seqs, each sent once at 10.
func ones(seqs ...int) []api.Flight {
	var l []api.Flight
	for _, s := range seqs {
		l = append(l, flight(s, 10, 1))
	}
	return l
}

var right = []api.Send{
	send.Start(), row(1, 8, 7), row(maxID, 1, 0), row(2, 1, 7, ones(1)...), row(9, 8, 0, ones(1, 2, 3, 4, 5, 6, 7, 8)...), row(9, 1, 0, ones(1, 2, 3, 4, 5, 6, 7, 8)...),
	row(10, 3, 1, ones(2, 9)...), row(maxID, 2, 0, ones(maxID-8, maxID-1)...), row(5, 4, 0, flight(2, 0, 1), flight(4, api.Most, maxID)),
}

var wrong = []api.Send{
	{}, row(0, 1, 0), row(-1, 1, 0), row(maxID+1, 1, 0), row(1, 0, 0), row(1, 9, 0), row(1, -1, 0), row(1, 1, -1), row(1, 1, 8),
	row(1, 1, 0, ones(0)...), row(1, 1, 0, ones(1)...), row(5, 1, 0, ones(5)...), row(5, 1, 0, ones(-1, 2)...), row(10, 1, 0, ones(1, 4)...), row(5, 1, 0, ones(3, 3)...), row(5, 1, 0, ones(3, 2)...),
	row(9, 8, 0, ones(0, 1, 2, 3, 4, 5, 6, 7, 8)...), row(10, 8, 0, ones(1, 2, 3, 4, 5, 6, 7, 8, 9)...),
	row(5, 1, 0, flight(3, -1, 1)), row(5, 1, 0, flight(3, api.Most+1, 1)), row(5, 1, 0, flight(3, 1, 0)), row(5, 1, 0, flight(3, 1, maxID+1)),
	row(api.MaxInt, api.MaxInt, api.MaxInt), row(api.MinInt, api.MinInt, api.MinInt, flight(api.MaxInt, api.MinInt, api.MinInt)),
}

func TestP11_1_StartRightSame(t *testing.T) {
	if s := send.Start(); s.Next != 1 || s.Cwnd != 1 || s.Acc != 0 || len(s.Flights) != 0 {
		t.Errorf("Start is %+v", s)
	}
	for _, s := range right {
		if !send.Right(s) {
			t.Errorf("not right: %+v", s)
		}
	}
	for _, s := range wrong {
		if send.Right(s) {
			t.Errorf("right: %+v", s)
		}
	}
	all := append(slices.Clone(right), wrong...)
	for i, a := range all {
		for j, b := range all {
			if send.Same(a, b) != (i == j) {
				t.Errorf("Same of %+v and %+v is not %v", a, b, i == j)
			}
		}
	}
	if !send.Same(api.Send{Flights: []api.Flight{}}, api.Send{}) {
		t.Error("a nil list and an empty one are not the same")
	}
	for k, other := range []api.Flight{flight(3, 11, 1), flight(3, 10, 2), flight(2, 10, 1), {Seq: 3, At: 10, Tries: 1}} {
		if send.Same(row(5, 1, 0, other), row(5, 1, 0, flight(3, 10, 1))) {
			t.Errorf("case %d: another flight is not seen", k)
		}
	}
}

func TestP11_2_Room(t *testing.T) {
	for k, x := range []struct {
		s    api.Send
		want int
	}{
		{send.Start(), 1}, {row(1, 8, 0), 8}, {row(100, 5, 0), 5}, {row(2, 1, 0, ones(1)...), 0}, {row(2, 4, 0, ones(1)...), 3},
		{row(5, 8, 0, ones(1)...), 4}, {row(9, 8, 0, ones(1)...), 0}, {row(8, 8, 0, ones(1)...), 1}, {row(9, 8, 0, ones(8)...), 7}, {row(9, 8, 0, ones(7, 8)...), 6},
		{row(9, 1, 0, ones(7, 8)...), 0}, {row(9, 3, 0, ones(1, 8)...), 0}, {row(maxID, 8, 0), 0}, {row(maxID-1, 8, 0), 1}, {row(maxID-3, 8, 0, ones(maxID-4)...), 3},
	} {
		if got := send.Room(x.s); got != x.want {
			t.Errorf("case %d: %d, not %d", k, got, x.want)
		}
	}
}

func TestP11_3_Push(t *testing.T) {
	n := api.Note{User: 3, Version: 9, Status: 1, Count: 2}
	for _, s := range right {
		got, f, ok := send.Push(s, n, 77)
		if send.Room(s) == 0 {
			if !send.Same(got, s) || f != (api.Flight{}) || ok {
				t.Errorf("Push without room to %+v: %+v, %+v, %v", s, got, f, ok)
			}
			continue
		}
		want := s
		want.Next++
		one := api.Flight{Seq: s.Next, Note: n, At: 77, Tries: 1}
		want.Flights = append(slices.Clone(s.Flights), one)
		if !send.Same(got, want) || f != one || !ok {
			t.Errorf("Push to %+v: %+v, %+v, %v", s, got, f, ok)
		}
	}
}

func TestP11_4_Acked(t *testing.T) {
	all := ones(1, 2, 3, 4, 5, 6, 7, 8)
	for k, x := range []struct {
		s              api.Send
		ack, sack, now int
		want           api.Send
		took           int
	}{
		{row(2, 1, 0, ones(1)...), 1, 0, 15, row(2, 2, 0), 5},
		{row(9, 8, 0, all...), 0, 0, 15, row(9, 8, 0, all...), -1},
		{row(9, 8, 0, all...), 8, 0, 15, row(9, 8, 0), 5},
		{row(9, 8, 3, all...), 4, 0, 15, row(9, 8, 7, all[4:]...), 5},
		{row(9, 8, 4, all...), 4, 0, 15, row(9, 8, 0, all[4:]...), 5},
		{row(9, 8, 0, all...), 0, 1, 15, row(9, 8, 1, append(ones(1), all[2:]...)...), 5},
		{row(9, 8, 0, all...), 0, 64, 15, row(9, 8, 1, all[:7]...), 5},
		{row(9, 8, 0, all...), 0, 128, 15, row(9, 8, 0, all...), -1},
		{row(9, 8, 0, all...), 1, 1 + 4, 15, row(9, 8, 3, ones(2, 4, 6, 7, 8)...), 5},
		{row(9, 8, 0, all...), 0, -1, 15, row(9, 8, 7, ones(1)...), 5},
		{row(9, 8, 0, all...), 0, -128, 15, row(9, 8, 0, all...), -1},
		{row(9, 8, 0, all...), 0, api.MaxInt, 15, row(9, 8, 7, ones(1)...), 5},
		{row(9, 8, 0, all...), 0, api.MinInt + 2, 15, row(9, 8, 1, ones(1, 2, 4, 5, 6, 7, 8)...), 5},
		{row(20, 8, 0, ones(14, 15)...), 5, 128, 15, row(20, 8, 0, ones(14, 15)...), -1},
		{row(20, 8, 0, ones(13, 14)...), 5, 64 + 128, 15, row(20, 8, 1, ones(14)...), 5},
		{row(20, 8, 0, ones(13, 14)...), 12, 255, 15, row(20, 8, 1, ones(13)...), 5},
		{row(9, 8, 0, all...), -1, 127, 15, row(9, 8, 0, all...), -1},
		{row(9, 8, 0, all...), 9, 127, 15, row(9, 8, 0, all...), -1},
		{row(9, 8, 0, all...), api.MinInt, 127, 15, row(9, 8, 0, all...), -1},
		{row(9, 8, 0, all...), api.MaxInt, 127, 15, row(9, 8, 0, all...), -1},
		{row(9, 1, 7, all...), -1, 0, 15, row(9, 1, 7, all...), -1},
		{row(9, 1, 7, all...), 0, 0, 15, row(9, 4, 1, all...), -1},
		{row(9, 1, 0, all...), 8, 0, 15, row(9, 4, 2), 5},
		{row(9, 7, 6, all...), 2, 0, 15, row(9, 8, 1, all[2:]...), 5},
		{row(9, 8, 7, all...), 8, 0, 15, row(9, 8, 7), 5},
		{row(9, 2, 1, all[:2]...), 1, 0, 15, row(9, 3, 0, all[1:2]...), 5},
		{row(5, 4, 0, flight(1, 9, 1), flight(2, 3, 2), flight(3, 7, 1)), 3, 0, 15, row(5, 4, 3), 8},
		{row(5, 4, 0, flight(1, 9, 1), flight(2, 3, 2), flight(3, 7, 1)), 1, 0, 15, row(5, 4, 1, flight(2, 3, 2), flight(3, 7, 1)), 6},
		{row(5, 4, 0, flight(1, 9, 2), flight(2, 3, 2)), 2, 0, 15, row(5, 4, 2), -1},
		{row(5, 4, 0, flight(1, 19, 1)), 1, 0, 15, row(5, 4, 1), 0},
		{row(5, 4, 0, flight(1, 15, 1)), 1, 0, 15, row(5, 4, 1), 0},
	} {
		got, took := send.Acked(x.s, x.ack, x.sack, x.now)
		if !send.Same(got, x.want) || took != x.took {
			t.Errorf("case %d: %+v, %d", k, got, took)
		}
	}
}

func TestP11_5_Due(t *testing.T) {
	s := row(6, 4, 0, flight(1, 9, 1), flight(2, 3, 2), flight(3, 7, 1), flight(5, api.Most, 1))
	for k, x := range []struct {
		now, rto int
		want     []int
	}{
		{0, 0, nil}, {8, 5, []int{2}}, {7, 5, nil}, {12, 5, []int{2, 3}}, {13, 5, []int{2, 3}}, {14, 5, []int{1, 2, 3}},
		{api.Most, 0, []int{1, 2, 3, 5}}, {api.Most, 1, []int{1, 2, 3}}, {api.Most, api.Most, nil},
	} {
		if got := send.Due(s, x.now, x.rto); !slices.Equal(got, x.want) {
			t.Errorf("case %d: %v", k, got)
		}
	}
}

func TestP11_5_Resend(t *testing.T) {
	s := row(6, 4, 2, flight(1, 9, 1), flight(2, 3, 2), flight(4, 7, maxID))
	for k, x := range []struct {
		seq  int
		want api.Flight
	}{{1, flight(1, 20, 2)}, {2, flight(2, 20, 3)}, {4, flight(4, 20, maxID)}} {
		want := row(6, 4, 2, slices.Clone(s.Flights)...)
		want.Flights[k] = x.want
		if got, f, ok := send.Resend(s, x.seq, 20); !send.Same(got, want) || f != x.want || !ok {
			t.Errorf("Resend of %d: %+v, %+v, %v", x.seq, got, f, ok)
		}
	}
	for _, seq := range []int{api.MinInt, 0, 3, 5, 6, api.MaxInt} {
		if got, f, ok := send.Resend(s, seq, 20); !send.Same(got, s) || f != (api.Flight{}) || ok {
			t.Errorf("Resend of %d: %+v, %+v, %v", seq, got, f, ok)
		}
	}
}

func TestP11_5_LostAndVoid(t *testing.T) {
	for cwnd, want := range []int{0, 1, 1, 1, 2, 2, 3, 3, 4} {
		if cwnd == 0 {
			continue
		}
		if got := send.Lost(row(9, cwnd, 7, ones(3, 4)...)); !send.Same(got, row(9, want, 0, ones(3, 4)...)) {
			t.Errorf("Lost of %d: %+v", cwnd, got)
		}
	}
	s := row(22, 8, 1, ones(15, 16, 17, 20)...)
	s.Flights[3].Note = api.Note{User: note(16).User, Version: 99}
	want := row(22, 8, 1, slices.Clone(s.Flights)...)
	want.Flights[1].Note, want.Flights[3].Note = api.Note{}, api.Note{}
	if got := send.Void(s, note(16).User); !send.Same(got, want) {
		t.Errorf("Void: %+v", got)
	}
	for _, user := range []int{0, 9, -1, api.MaxInt} {
		if got := send.Void(s, user); !send.Same(got, s) {
			t.Errorf("Void of %d: %+v", user, got)
		}
	}
	odd := row(2, 1, 0, api.Flight{Seq: 1, Note: api.Note{Version: 4}, Tries: 1})
	if got := send.Void(odd, 0); got.Flights[0].Note != (api.Note{}) {
		t.Errorf("Void of 0: %+v", got)
	}
}

func TestP11_6_Memory(t *testing.T) {
	calls := map[string]func(s api.Send) api.Send{
		"Push":            func(s api.Send) api.Send { got, _, _ := send.Push(s, note(5), 20); return got },
		"Push, no room":   func(s api.Send) api.Send { s.Cwnd = 1; got, _, _ := send.Push(s, note(5), 20); return got },
		"Acked":           func(s api.Send) api.Send { got, _ := send.Acked(s, 1, 2, 20); return got },
		"Acked of none":   func(s api.Send) api.Send { got, _ := send.Acked(s, 0, 0, 20); return got },
		"Acked, refused":  func(s api.Send) api.Send { got, _ := send.Acked(s, -1, 2, 20); return got },
		"Resend":          func(s api.Send) api.Send { got, _, _ := send.Resend(s, 2, 20); return got },
		"Resend, of none": func(s api.Send) api.Send { got, _, _ := send.Resend(s, 20, 20); return got },
		"Lost":            send.Lost,
		"Void":            func(s api.Send) api.Send { return send.Void(s, note(2).User) },
		"Void of none":    func(s api.Send) api.Send { return send.Void(s, 16) },
		"asked": func(s api.Send) api.Send {
			send.Room(s)
			send.Due(s, 90, 2)
			send.Right(s)
			send.Same(s, s)
			return api.Send{}
		},
	}
	for name, call := range calls {
		l, kept := probe.Roomy(ones(1, 2, 3), flight(77, 7, 7))
		s := row(4, 8, 0, l...)
		got := call(s)
		if !kept() {
			t.Errorf("%s: what was handed in is changed", name)
		}
		if probe.Shares(got.Flights, l) {
			t.Errorf("%s: memory is shared", name)
		}
	}
}

func TestP11_7_StaysRight(t *testing.T) {
	rnd := rand.New(rand.NewSource(17))
	for range 300 {
		s, now := send.Start(), 0
		if rnd.Intn(2) == 0 {
			s.Next = maxID - 20
		}
		for range 150 {
			now += rnd.Intn(4)
			switch rnd.Intn(6) {
			case 0, 1:
				cwnd, room := s.Cwnd, send.Room(s)
				var ok bool
				if s, _, ok = send.Push(s, note(now), now); ok != (room > 0) || ok && len(s.Flights) > cwnd {
					t.Fatalf("Push with room %d: %+v", room, s)
				}
			case 2, 3:
				s, _ = send.Acked(s, s.Next-rnd.Intn(10), rnd.Intn(256), now)
			case 4:
				for _, seq := range send.Due(s, now, rnd.Intn(20)) {
					s, _, _ = send.Resend(s, seq, now)
				}
			case 5:
				s = send.Void(s, rnd.Intn(17))
				if rnd.Intn(3) == 0 {
					s = send.Lost(s)
				}
			}
			if !send.Right(s) || len(s.Flights) > 8 {
				t.Fatalf("not right: %+v", s)
			}
		}
	}
}

func TestP11_7_Example(t *testing.T) {
	s := send.Start()
	if send.Room(s) != 1 {
		t.Error("Room is not 1")
	}
	s, _, _ = send.Push(s, note(1), 0)
	if s, _ = send.Acked(s, 1, 0, 3); s.Cwnd != 2 || send.Room(s) != 2 {
		t.Errorf("%+v", s)
	}
}
