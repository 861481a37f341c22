package board_test

import (
	"math/rand"
	"slices"
	"testing"

	"nightjar/api"
	"nightjar/board"
	"nightjar/probe"
)

var noUsers = []int{api.MinInt, -1, 0, 17, 18, api.MaxInt}

// filled is a board on which all entries differ.
func filled() api.Board {
	var b api.Board
	for i := range b {
		b[i] = api.Entry{Version: 10 * i, Status: i%3 + 1, Count: i%4 + 1}
	}
	return b
}

func TestP19_1_Fold(t *testing.T) {
	for k, x := range []struct {
		l             []int
		status, count int
	}{
		{nil, 0, 0}, {[]int{}, 0, 0}, {[]int{1, 3}, 3, 2}, {[]int{3, 1, 2}, 3, 3}, {[]int{1}, 1, 1}, {[]int{2, 1}, 2, 2}, {[]int{1, 1, 1, 1}, 1, 4}, {[]int{1, 2, 1, 1, 1}, 2, 4}, {[]int{1, 1, 1, 1, 1, 3}, 3, 4},
		{[]int{0}, 0, 0}, {[]int{4}, 0, 0}, {[]int{0, 4, -1, 2}, 2, 1}, {[]int{api.MinInt, api.MaxInt}, 0, 0}, {[]int{5, 1}, 1, 1}, {slices.Repeat([]int{2}, 100), 2, 4},
	} {
		if status, count := board.Fold(x.l...); status != x.status || count != x.count {
			t.Errorf("case %d: %d, %d", k, status, count)
		}
	}
}

func TestP19_2_Put(t *testing.T) {
	for user := 1; user <= 16; user++ {
		for _, l := range [][]int{nil, {1}, {3}, {1, 2}, {2, 2, 2}, {3, 1, 1, 1}, {0, 9}} {
			status, count := board.Fold(l...)
			for _, version := range []int{0, 1, api.MaxID - 1, api.MaxID} {
				for _, old := range []api.Entry{{}, {Status: status, Count: count}, {Status: status, Count: count + 1}, {Status: status + 1, Count: count}} {
					b := filled()
					old.Version = version
					b[user] = old
					want, ok := b, version < api.MaxID && (old.Status != status || old.Count != count)
					if ok {
						want[user] = api.Entry{Version: version + 1, Status: status, Count: count}
					}
					if got, told := board.Put(b, user, l...); got != want || told != ok {
						t.Errorf("Put of %v by %d to %+v: %+v, %v", l, user, old, got[user], told)
					}
				}
			}
		}
	}
	for _, user := range noUsers {
		if got, ok := board.Put(filled(), user, 1, 1, 1); got != filled() || ok {
			t.Errorf("Put of user %d: %v", user, ok)
		}
	}
	if got, ok := board.Put(api.Board{}, 5); got != (api.Board{}) || ok {
		t.Error("Put of none to an empty entry tells a change")
	}
}

func TestP19_3_Note(t *testing.T) {
	b := filled()
	for user := 1; user <= 16; user++ {
		want := api.Note{User: user, Version: 10 * user, Status: user%3 + 1, Count: user%4 + 1}
		if got := board.Note(b, user); got != want {
			t.Errorf("Note of %d: %+v", user, got)
		}
	}
	if got := board.Note(api.Board{}, 16); got != (api.Note{User: 16}) {
		t.Errorf("Note of an empty entry: %+v", got)
	}
	for _, user := range noUsers {
		if got := board.Note(b, user); got != (api.Note{}) {
			t.Errorf("Note of %d: %+v", user, got)
		}
	}
}

func TestP19_3_Newer(t *testing.T) {
	for k, x := range []struct {
		old, now api.Note
		want     bool
	}{
		{api.Note{User: 1, Version: 3}, api.Note{User: 1, Version: 4}, true}, {api.Note{User: 1, Version: 3}, api.Note{User: 1, Version: 3, Status: 2, Count: 2}, false},
		{api.Note{User: 1, Version: 3}, api.Note{User: 1, Version: 2, Status: 3}, false}, {api.Note{User: 1, Version: 3}, api.Note{User: 2, Version: 4}, false},
		{api.Note{User: 2, Version: 3}, api.Note{User: 1, Version: 4}, false}, {api.Note{}, api.Note{}, false}, {api.Note{}, api.Note{Version: 1}, true},
		{api.Note{Version: api.MinInt}, api.Note{Version: api.MaxInt}, true}, {api.Note{Version: api.MaxInt}, api.Note{Version: api.MinInt}, false},
	} {
		if got := board.Newer(x.old, x.now); got != x.want {
			t.Errorf("case %d: %v", k, got)
		}
	}
}

func TestP19_4_RiseByOne(t *testing.T) {
	rnd := rand.New(rand.NewSource(24))
	var b api.Board
	for range 3000 {
		user := rnd.Intn(19) - 1
		l := make([]int, rnd.Intn(6))
		for i := range l {
			l[i] = rnd.Intn(6) - 1
		}
		l, kept := probe.Roomy(l, 7)
		got, ok := board.Put(b, user, l...)
		mixed := slices.Clone(l)
		rnd.Shuffle(len(mixed), func(i, j int) { mixed[i], mixed[j] = mixed[j], mixed[i] })
		if again, _ := board.Put(b, user, mixed...); again != got {
			t.Fatalf("%v and %v are not folded alike", l, mixed)
		}
		if !kept() {
			t.Fatal("what was handed in is changed")
		}
		before, after := board.Note(b, user), board.Note(got, user)
		rise := 0
		if ok {
			rise = 1
		}
		if after.Version != before.Version+rise || (after == before) == ok || board.Newer(before, after) != ok {
			t.Fatalf("%+v becomes %+v, %v", before, after, ok)
		}
		b = got
	}
}
