package ghost_test

import (
	"math/rand"
	"slices"
	"testing"

	"nightjar/api"
	"nightjar/board"
	"nightjar/ghost"
	"nightjar/probe"
)

var noUsers = []int{api.MinInt, -1, 0, 17, api.MaxInt}

// of is a board with one entry.
func of(user int, e api.Entry) api.Board {
	var b api.Board
	b[user] = e
	return b
}

func entry(version, status, count int) api.Entry {
	return api.Entry{Version: version, Status: status, Count: count}
}

func note(user, version, status, count int) api.Note {
	return api.Note{User: user, Version: version, Status: status, Count: count}
}

// check holds what a ghost says of a user against the notes that it should have.
func check(t *testing.T, g *ghost.Ghost, user int, want ...api.Note) {
	t.Helper()
	want = append([]api.Note{{User: user}}, want...)
	if g.Many(user) != len(want) || g.Last(user) != want[len(want)-1] {
		t.Fatalf("of %d: %d notes, the last one %+v, not %v", user, g.Many(user), g.Last(user), want)
	}
	for _, n := range want {
		if !g.Had(n) {
			t.Fatalf("never had %+v", n)
		}
	}
}

func wrong(t *testing.T, g *ghost.Ghost, want bool) {
	t.Helper()
	if g.Wrong() != want || g.Fine() == want {
		t.Fatalf("wrong is %v, fine %v", g.Wrong(), g.Fine())
	}
}

func TestP25_1_New(t *testing.T) {
	for _, g := range []*ghost.Ghost{ghost.New(), new(ghost.Ghost)} {
		for range 3 {
			for user := 1; user <= 16; user++ {
				check(t, g, user)
			}
			wrong(t, g, false)
			g.Look(api.Board{})
		}
	}
}

func TestP25_1_Look(t *testing.T) {
	for user := 1; user <= 16; user++ {
		g := ghost.New()
		g.Look(of(user, entry(1, 3, 1)))
		check(t, g, user, note(user, 1, 3, 1))
		g.Look(of(user, entry(1, 3, 1)))
		check(t, g, user, note(user, 1, 3, 1))
		g.Look(of(user, entry(5, 0, 0)))
		check(t, g, user, note(user, 1, 3, 1), note(user, 5, 0, 0))
		for other := 1; other <= 16; other++ {
			if other != user {
				check(t, g, other)
			}
		}
		wrong(t, g, false)
	}
}

func TestP25_1_LookWrong(t *testing.T) {
	for k, e := range []api.Entry{entry(4, 3, 1), entry(0, 0, 0), entry(5, 2, 1), entry(5, 3, 2), entry(4, 2, 2), entry(-1, 3, 1), entry(api.MinInt, 3, 1)} {
		for _, user := range []int{1, 9, 16} {
			g := ghost.New()
			g.Look(of(user, entry(5, 3, 1)))
			wrong(t, g, false)
			if g.Look(of(user, e)); !g.Wrong() {
				t.Errorf("case %d: nothing is wrong", k)
			}
			check(t, g, user, note(user, 5, 3, 1))
			g.Look(of(user, entry(6, 1, 1)))
			check(t, g, user, note(user, 5, 3, 1), note(user, 6, 1, 1))
			wrong(t, g, true)
		}
	}
	g := ghost.New()
	g.Look(of(3, entry(0, 1, 0)))
	wrong(t, g, true)
	g = ghost.New()
	g.Look(of(0, entry(7, 1, 1)))
	wrong(t, g, false)
}

func TestP25_2_Asked(t *testing.T) {
	g := ghost.New()
	g.Look(of(2, entry(1, 3, 1)))
	g.Look(of(2, entry(2, 1, 1)))
	for n, want := range map[api.Note]bool{
		{User: 2}: true, note(2, 1, 3, 1): true, note(2, 2, 1, 1): true, {User: 3}: true, {User: 16}: true, {User: 1}: true,
		{}: false, {User: 17}: false, {User: -1}: false, note(0, 1, 3, 1): false, note(3, 1, 3, 1): false, note(2, 1, 3, 2): false, note(2, 1, 1, 1): false, note(2, 3, 1, 1): false, note(2, 0, 1, 0): false, note(2, 2, 3, 1): false,
	} {
		if g.Had(n) != want {
			t.Errorf("Had of %+v is not %v", n, want)
		}
		if g.Fine(n) != (want || n == api.Note{}) || g.Fine(note(2, 1, 3, 1), n, api.Note{}) != (want || n == api.Note{}) {
			t.Errorf("Fine of %+v is %v", n, g.Fine(n))
		}
	}
	for _, user := range noUsers {
		if g.Last(user) != (api.Note{}) || g.Many(user) != 0 {
			t.Errorf("of %d: %+v, %d", user, g.Last(user), g.Many(user))
		}
	}
	if !g.Fine() || !g.Fine(api.Note{}, api.Note{}) {
		t.Error("not fine")
	}
	if g.Look(api.Board{}); g.Fine() || g.Fine(api.Note{}) || g.Fine(note(2, 1, 3, 1)) {
		t.Error("fine, and something is wrong")
	}
}

func TestP25_3_Memory(t *testing.T) {
	g := ghost.New()
	views, kept := probe.Roomy([]api.Note{{User: 2}, note(3, 1, 1, 1)}, note(7, 7, 7, 7))
	if g.Fine(views...); !kept() {
		t.Error("what is handed in is changed")
	}
	b := of(3, entry(1, 1, 1))
	g.Look(b)
	b[3].Version = 9
	check(t, g, 3, note(3, 1, 1, 1))
	if !g.Fine(views...) {
		t.Error("not fine")
	}
}

func TestP25_Boards(t *testing.T) {
	rnd := rand.New(rand.NewSource(28))
	var b api.Board
	g := ghost.New()
	all := map[int][]api.Note{}
	for range 2000 {
		user := 1 + rnd.Intn(16)
		l := make([]int, rnd.Intn(5))
		for i := range l {
			l[i] = 1 + rnd.Intn(3)
		}
		var ok bool
		if b, ok = board.Put(b, user, l...); ok {
			all[user] = append(all[user], board.Note(b, user))
		}
		g.Look(b)
		check(t, g, user, all[user]...)
		wrong(t, g, false)
		n := note(user, rnd.Intn(90), rnd.Intn(4), rnd.Intn(5))
		if g.Had(n) != (n == api.Note{User: user} || slices.Contains(all[user], n)) {
			t.Fatalf("Had of %+v is wrong", n)
		}
	}
}
