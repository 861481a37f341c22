package session_test

import (
	"math/rand"
	"slices"
	"testing"

	"nightjar/api"
	"nightjar/channel"
	"nightjar/probe"
	"nightjar/session"
)

const maxID = api.MaxID

// some is a session that fits, with beats and flights.
func some(id, user int) api.Session {
	c, _, _ := channel.Push(channel.Start(), api.Note{User: 3, Version: 4}, 5)
	return api.Session{
		ID: id, User: user, Addr: 1000 + id%1000, Nonce: 7 * user, Key: [16]byte{byte(id), 9}, Status: id%3 + 1, OpSeq: 4, OpCode: 6,
		Beats: []api.Beat{{Seq: 1, At: 2}, {Seq: 3, At: 4}}, Health: api.Health{State: api.Alive, Since: 2}, Chan: c,
	}
}

// table is sessions of these users, of the IDs 10, 20 and so on.
func table(users ...int) []api.Session {
	var t []api.Session
	for i, u := range users {
		t = append(t, some(10*(i+1), u))
	}
	return t
}

// crowd is n sessions of which no user has more than four.
func crowd(n int) []api.Session {
	users := make([]int, n)
	for i := range users {
		users[i] = i%16 + 1
	}
	return table(users...)
}

// changes are what may be another in a session that fits.
var changes = map[string]func(s *api.Session){
	"User": func(s *api.Session) { s.User = s.User%16 + 1 }, "Addr": func(s *api.Session) { s.Addr++ },
	"Nonce": func(s *api.Session) { s.Nonce++ }, "Key": func(s *api.Session) { s.Key[15]++ }, "Status": func(s *api.Session) { s.Status = s.Status%3 + 1 },
	"OpSeq": func(s *api.Session) { s.OpSeq++ }, "OpCode": func(s *api.Session) { s.OpCode++ }, "Beats": func(s *api.Session) { s.Beats = s.Beats[1:] },
	"a beat": func(s *api.Session) { s.Beats[1].At++ }, "State": func(s *api.Session) { s.Health.State = api.Suspect }, "Since": func(s *api.Session) { s.Health.Since++ },
	"Chan": func(s *api.Session) { s.Chan = channel.Start() }, "a flight": func(s *api.Session) { s.Chan.Send.Flights[0].At++ }, "a note": func(s *api.Session) { s.Chan.Send.Flights[0].Note.Count++ },
	"Rtt": func(s *api.Session) { s.Chan.Rtt.Fails++ }, "ID": func(s *api.Session) { s.ID++ },
}

// unfit are what makes a session not fit.
var unfit = map[string]func(s *api.Session){
	"ID 0": func(s *api.Session) { s.ID = 0 }, "ID too great": func(s *api.Session) { s.ID = maxID + 1 }, "User 0": func(s *api.Session) { s.User = 0 }, "User 17": func(s *api.Session) { s.User = 17 },
	"Addr -1": func(s *api.Session) { s.Addr = -1 }, "Addr too great": func(s *api.Session) { s.Addr = 65536 }, "Nonce -1": func(s *api.Session) { s.Nonce = -1 }, "Nonce too great": func(s *api.Session) { s.Nonce = maxID + 1 },
	"Status 0": func(s *api.Session) { s.Status = 0 }, "Status 4": func(s *api.Session) { s.Status = 4 }, "OpSeq -1": func(s *api.Session) { s.OpSeq = -1 }, "OpSeq too great": func(s *api.Session) { s.OpSeq = maxID + 1 },
	"OpCode -1": func(s *api.Session) { s.OpCode = -1 }, "OpCode 16": func(s *api.Session) { s.OpCode = 16 }, "no beats": func(s *api.Session) { s.Beats = nil }, "wrong beats": func(s *api.Session) { s.Beats[1].Seq = 1 },
	"State 0": func(s *api.Session) { s.Health.State = 0 }, "Offline": func(s *api.Session) { s.Health.State = api.Offline }, "Since -1": func(s *api.Session) { s.Health.Since = -1 }, "Since too great": func(s *api.Session) { s.Health.Since = api.Most + 1 },
	"no channel": func(s *api.Session) { s.Chan = api.Chan{} }, "wrong channel": func(s *api.Session) { s.Chan.Rtt.Rto = 1 }, "wrong flight": func(s *api.Session) { s.Chan.Send.Flights[0].Tries = 0 },
}

func TestP18_1_Fits(t *testing.T) {
	edges := []func(s *api.Session){
		func(s *api.Session) {}, func(s *api.Session) { s.ID = maxID }, func(s *api.Session) { s.User = 16 }, func(s *api.Session) { s.Addr = 0 }, func(s *api.Session) { s.Addr = 65535 },
		func(s *api.Session) { s.Nonce = 0 }, func(s *api.Session) { s.Nonce = maxID }, func(s *api.Session) { s.Status = 1 }, func(s *api.Session) { s.Status = 3 }, func(s *api.Session) { s.OpSeq = 0 },
		func(s *api.Session) { s.OpSeq = maxID }, func(s *api.Session) { s.OpCode = 0 }, func(s *api.Session) { s.OpCode = 15 }, func(s *api.Session) { s.Health = api.Health{State: 2, Since: api.Most} }, func(s *api.Session) { s.Health.Since = 0 },
	}
	for k, change := range edges {
		s := some(1, 1)
		if change(&s); !session.Fits(s) {
			t.Errorf("edge %d does not fit", k)
		}
	}
	for name, change := range unfit {
		s := some(1, 1)
		if change(&s); session.Fits(s) {
			t.Errorf("%s fits", name)
		}
		if session.Right([]api.Session{s}) {
			t.Errorf("%s is right", name)
		}
	}
	if session.Fits(api.Session{}) {
		t.Error("a zero one fits")
	}
}

func TestP18_1_Right(t *testing.T) {
	for k, x := range [][]api.Session{nil, {}, table(1), table(1, 1, 1, 1), table(2, 1, 2, 1, 2, 1, 2, 1), crowd(32)} {
		if !session.Right(x) {
			t.Errorf("case %d is not right", k)
		}
	}
	swapped := table(1, 2)
	swapped[0], swapped[1] = swapped[1], swapped[0]
	twice := table(1, 2)
	twice[1].ID = twice[0].ID
	for k, x := range [][]api.Session{crowd(33), table(1, 1, 1, 1, 1), table(2, 1, 1, 2, 1, 1, 1), swapped, twice} {
		if session.Right(x) {
			t.Errorf("case %d is right", k)
		}
	}
}

func TestP18_1_SameAndCopy(t *testing.T) {
	if !session.Same(nil, []api.Session{}) || !session.Same(table(1, 2), table(1, 2)) || session.Same(table(1), table(1, 2)) || session.Same(table(1, 2), table(1)) {
		t.Error("Same is wrong")
	}
	for name, change := range changes {
		a, b := table(1, 2), table(1, 2)
		if change(&b[1]); session.Same(a, b) || session.Same(b, a) {
			t.Errorf("another %s is not seen", name)
		}
	}
	empty := table(1)
	empty[0].Chan.Send.Flights = []api.Flight{}
	none := table(1)
	if none[0].Chan.Send.Flights = nil; !session.Same(empty, none) {
		t.Error("a nil list and an empty one are not the same")
	}
	if a := crowd(32); !session.Same(session.Copy(a), a) || len(session.Copy(nil)) != 0 {
		t.Error("a copy is not the same")
	}
}

func TestP18_2_Asked(t *testing.T) {
	x := table(3, 1, 3, 3)
	for i, s := range x {
		if got, ok := session.Find(x, s.ID); !ok || !session.Same([]api.Session{got}, x[i:i+1]) {
			t.Errorf("Find of %d: %+v, %v", s.ID, got, ok)
		}
	}
	for _, id := range []int{0, 5, 11, 41, -10, api.MinInt, api.MaxInt} {
		if got, ok := session.Find(x, id); ok || !session.Same([]api.Session{got}, []api.Session{{}}) {
			t.Errorf("Find of %d: %+v, %v", id, got, ok)
		}
	}
	for user, want := range map[int][]int{1: {20}, 3: {10, 30, 40}, 2: nil, 0: nil, -1: nil, 99: nil} {
		if got := session.Of(x, user); !slices.Equal(got, want) {
			t.Errorf("Of %d: %v", user, got)
		}
	}
	for user, want := range map[int][]int{1: {x[1].Status}, 3: {x[0].Status, x[2].Status, x[3].Status}, 2: nil} {
		if got := session.Statuses(x, user); !slices.Equal(got, want) {
			t.Errorf("Statuses of %d: %v", user, got)
		}
	}
}

func TestP18_3_Open(t *testing.T) {
	check := func(name string, x []api.Session, s api.Session, want api.Errno) {
		t.Helper()
		got, err := session.Open(x, s)
		if err != want {
			t.Errorf("%s: %d, not %d", name, err, want)
		}
		after := x
		if want == api.OK {
			after = append(slices.Clone(x), s)
		}
		if !session.Same(got, after) {
			t.Errorf("%s: not the table that is awaited", name)
		}
	}
	check("the first", nil, some(1, 1), api.OK)
	check("the last", nil, some(maxID, 16), api.OK)
	check("behind others", table(1, 2), some(21, 1), api.OK)
	check("the same ID", table(1, 2), some(20, 1), api.ErrArg)
	check("an ID between", table(1, 2), some(15, 1), api.ErrArg)
	check("a fourth", table(1, 1, 1), some(99, 1), api.OK)
	check("a fifth", table(1, 1, 1, 1), some(99, 1), api.ErrFull)
	check("a fifth of an old ID", table(1, 1, 1, 1), some(40, 1), api.ErrArg)
	check("another user's", table(1, 1, 1, 1), some(99, 2), api.OK)
	check("the thirty-second", crowd(31), some(9999, 1), api.OK)
	check("the thirty-third", crowd(32), some(9999, 1), api.ErrFull)
	for name, change := range unfit {
		s := some(99, 1)
		change(&s)
		check(name, table(1, 2), s, api.ErrArg)
		check(name, crowd(32), s, api.ErrArg)
	}
}

func TestP18_3_PutAndClose(t *testing.T) {
	for name, change := range changes {
		x := table(1, 2, 3)
		s := table(1, 2, 3)[1]
		change(&s)
		want := name != "User" && name != "ID"
		got, ok := session.Put(x, s)
		after := table(1, 2, 3)
		if want {
			after[1] = s
		}
		if ok != want || !session.Same(got, after) {
			t.Errorf("Put of another %s: %v", name, ok)
		}
	}
	for name, change := range unfit {
		s := some(20, 2)
		change(&s)
		if got, ok := session.Put(table(1, 2, 3), s); ok || !session.Same(got, table(1, 2, 3)) {
			t.Errorf("Put of %s: %v", name, ok)
		}
	}
	x := table(1, 2, 3)
	for i := range x {
		s, after := x[i], table(1, 2, 3)
		s.Addr++
		after[i] = s
		if got, ok := session.Put(x, s); !ok || !session.Same(got, after) {
			t.Errorf("Put at the place %d: %v", i, ok)
		}
	}
	for i, id := range []int{10, 20, 30} {
		if got, ok := session.Close(x, id); !ok || !session.Same(got, slices.Delete(table(1, 2, 3), i, i+1)) {
			t.Errorf("Close of %d: %v", id, ok)
		}
	}
	for _, id := range []int{0, 15, 40, -10, api.MaxInt} {
		if got, ok := session.Close(x, id); ok || !session.Same(got, x) {
			t.Errorf("Close of %d: %v", id, ok)
		}
	}
	if got, ok := session.Close(nil, 1); ok || len(got) != 0 {
		t.Error("Close of an empty table")
	}
}

// roomy is a table of which all rows have spare room; what is told with it says whether it is untouched.
func roomy() ([]api.Session, func() bool) {
	x := make([]api.Session, 3, 8)
	copy(x, table(1, 2, 3))
	var rows []func() bool
	for i := range x {
		beats, keptBeats := probe.Roomy(x[i].Beats, api.Beat{Seq: 77})
		flights, keptFlights := probe.Roomy(x[i].Chan.Send.Flights, api.Flight{Seq: 77})
		x[i].Beats, x[i].Chan.Send.Flights = beats, flights
		rows = append(rows, keptBeats, keptFlights)
	}
	return x, func() bool {
		for _, kept := range rows {
			if !kept() {
				return false
			}
		}
		return session.Same(x, table(1, 2, 3)) && session.Same(x[:8][3:], make([]api.Session, 5))
	}
}

func sharesAny(a, b []api.Session) bool {
	for _, x := range a {
		for _, y := range b {
			if probe.Shares(x.Beats, y.Beats) || probe.Shares(x.Chan.Send.Flights, y.Chan.Send.Flights) {
				return true
			}
		}
	}
	return probe.Shares(a, b)
}

func TestP18_4_Memory(t *testing.T) {
	calls := map[string]func(x []api.Session, s api.Session) []api.Session{
		"Open": func(x []api.Session, s api.Session) []api.Session {
			s.ID = 99
			got, _ := session.Open(x, s)
			return got
		},
		"Open, refused": func(x []api.Session, s api.Session) []api.Session { got, _ := session.Open(x, s); return got },
		"Put":           func(x []api.Session, s api.Session) []api.Session { got, _ := session.Put(x, s); return got },
		"Put, refused":  func(x []api.Session, s api.Session) []api.Session { s.ID = 99; got, _ := session.Put(x, s); return got },
		"Close":         func(x []api.Session, s api.Session) []api.Session { got, _ := session.Close(x, 20); return got },
		"Close of none": func(x []api.Session, s api.Session) []api.Session { got, _ := session.Close(x, 25); return got },
		"Copy":          func(x []api.Session, s api.Session) []api.Session { return session.Copy(x) },
		"Find": func(x []api.Session, s api.Session) []api.Session {
			got, _ := session.Find(x, 30)
			return []api.Session{got}
		},
		"asked": func(x []api.Session, s api.Session) []api.Session {
			session.Right(x)
			session.Of(x, 1)
			session.Statuses(x, 1)
			return nil
		},
	}
	for name, call := range calls {
		x, kept := roomy()
		one, keptOne := roomy()
		got := call(x, one[1])
		if !kept() || !keptOne() {
			t.Errorf("%s: what was handed in is changed", name)
		}
		if sharesAny(got, x) || sharesAny(got, one) {
			t.Errorf("%s: memory is shared", name)
		}
	}
}

func TestP18_5_StaysRight(t *testing.T) {
	four := table(1, 1, 1, 1)
	if _, err := session.Open(four, some(99, 1)); err != api.ErrFull {
		t.Errorf("a fifth one of a user: %d", err)
	}
	rnd := rand.New(rand.NewSource(23))
	var x []api.Session
	next, seen, full := 1, map[int]bool{}, 0
	for range 1500 {
		switch rnd.Intn(5) {
		case 0, 1, 2:
			id := next - rnd.Intn(3)
			s := some(max(id, 0), rnd.Intn(18))
			got, err := session.Open(x, s)
			if err == api.OK {
				if seen[id] && len(x) > 0 && id <= x[len(x)-1].ID {
					t.Fatalf("the ID %d comes twice", id)
				}
				seen[id] = true
				next = max(next, id+1)
			}
			if err == api.ErrFull {
				full++
			}
			x = got
		case 3:
			if rnd.Intn(3) == 0 {
				x, _ = session.Close(x, next-rnd.Intn(40))
			}
		case 4:
			if s, ok := session.Find(x, next-rnd.Intn(40)); ok {
				s.Status = rnd.Intn(5)
				x, _ = session.Put(x, s)
			}
		}
		if !session.Right(x) {
			t.Fatal("not right")
		}
	}
	if full == 0 {
		t.Error("never full")
	}
}
