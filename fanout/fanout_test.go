package fanout_test

import (
	"math/rand"
	"slices"
	"testing"

	"nightjar/api"
	"nightjar/fanout"
	"nightjar/probe"
)

// fan is a Fan of marks in pairs: a session, a user.
func fan(turn int, pairs ...int) api.Fan {
	f := api.Fan{Turn: turn}
	for i := 0; i+1 < len(pairs); i += 2 {
		f.Marks = append(f.Marks, api.Mark{Session: pairs[i], User: pairs[i+1]})
	}
	return f
}

// many is n marks that differ.
func many(n int) api.Fan {
	var f api.Fan
	for i := range n {
		f.Marks = append(f.Marks, api.Mark{Session: i/16 + 1, User: i%16 + 1})
	}
	return f
}

func TestP20_1_RightAndSame(t *testing.T) {
	for k, f := range []api.Fan{{}, fan(9), fan(-5, 1, 5), fan(0, 1, 5, 1, 6, 2, 5), fan(api.MinInt, api.MinInt, api.MaxInt, 0, 0), many(511), many(512)} {
		if !fanout.Right(f) {
			t.Errorf("case %d is not right", k)
		}
	}
	twice := many(511)
	twice.Marks = append(twice.Marks, twice.Marks[0])
	for k, f := range []api.Fan{fan(0, 1, 5, 1, 5), fan(0, 1, 5, 2, 5, 1, 5), fan(0, 0, 0, 0, 0), many(513), twice} {
		if fanout.Right(f) {
			t.Errorf("case %d is right", k)
		}
	}
	all := []api.Fan{{}, fan(1), fan(0, 1, 5), fan(1, 1, 5), fan(0, 1, 6), fan(0, 2, 5), fan(0, 1, 5, 2, 5), fan(0, 2, 5, 1, 5)}
	for i, a := range all {
		for j, b := range all {
			if fanout.Same(a, b) != (i == j) {
				t.Errorf("Same of %v and %v is not %v", a, b, i == j)
			}
		}
	}
	if !fanout.Same(api.Fan{Marks: []api.Mark{}}, api.Fan{}) {
		t.Error("a nil list and an empty one are not the same")
	}
}

func TestP20_2_Add(t *testing.T) {
	for k, x := range []struct {
		f             api.Fan
		session, user int
		want          api.Fan
		ok            bool
	}{
		{fan(3), 1, 5, fan(3, 1, 5), true}, {fan(3, 2, 5), 1, 5, fan(3, 2, 5, 1, 5), true}, {fan(3, 1, 5), 1, 6, fan(3, 1, 5, 1, 6), true},
		{fan(3, 1, 5), 1, 5, fan(3, 1, 5), false}, {fan(3, 1, 5, 2, 6), 1, 5, fan(3, 1, 5, 2, 6), false}, {fan(3, 1, 5), 5, 1, fan(3, 1, 5, 5, 1), true},
		{fan(3), api.MinInt, api.MaxInt, fan(3, api.MinInt, api.MaxInt), true}, {many(511), 32, 16, many(512), true}, {many(512), 99, 1, many(512), false}, {many(512), 1, 1, many(512), false},
	} {
		if got, ok := fanout.Add(x.f, x.session, x.user); !fanout.Same(got, x.want) || ok != x.ok {
			t.Errorf("case %d: %v, %v", k, got, ok)
		}
	}
}

func TestP20_2_StrikeAndDrop(t *testing.T) {
	f := fan(3, 1, 5, 1, 6, 2, 5, 1, 7)
	for k, x := range []struct {
		session, user int
		want          api.Fan
		ok            bool
	}{
		{1, 5, fan(3, 1, 6, 2, 5, 1, 7), true}, {1, 7, fan(3, 1, 5, 1, 6, 2, 5), true}, {2, 5, fan(3, 1, 5, 1, 6, 1, 7), true}, {2, 6, f, false}, {5, 1, f, false}, {0, 0, f, false}, {api.MaxInt, 5, f, false},
	} {
		if got, ok := fanout.Strike(f, x.session, x.user); !fanout.Same(got, x.want) || ok != x.ok {
			t.Errorf("Strike, case %d: %v, %v", k, got, ok)
		}
	}
	for k, x := range []struct {
		session int
		want    api.Fan
		many    int
	}{{1, fan(3, 2, 5), 3}, {2, fan(3, 1, 5, 1, 6, 1, 7), 1}, {3, f, 0}, {5, f, 0}, {0, f, 0}, {-1, f, 0}} {
		if got, many := fanout.Drop(f, x.session); !fanout.Same(got, x.want) || many != x.many {
			t.Errorf("Drop, case %d: %v, %d", k, got, many)
		}
	}
	if got, ok := fanout.Strike(api.Fan{}, 0, 0); ok || !fanout.Same(got, api.Fan{}) {
		t.Error("Strike of an empty one")
	}
}

func TestP20_3_Next(t *testing.T) {
	for k, x := range []struct {
		f     api.Fan
		ready []int
		want  api.Fan
		m     api.Mark
		ok    bool
	}{
		{fan(0, 1, 5, 1, 6, 2, 5), []int{1, 2}, fan(1, 1, 6, 2, 5), api.Mark{Session: 1, User: 5}, true},
		{fan(1, 1, 6, 2, 5), []int{1, 2}, fan(2, 1, 6), api.Mark{Session: 2, User: 5}, true},
		{fan(2, 1, 6), []int{1, 2}, fan(1), api.Mark{Session: 1, User: 6}, true},
		{fan(1), []int{1, 2}, fan(1), api.Mark{}, false},
		{fan(9, 1, 5), nil, fan(9, 1, 5), api.Mark{}, false},
		{fan(9, 1, 5), []int{2, 3, 9}, fan(9, 1, 5), api.Mark{}, false},
		{fan(0, 3, 5, 1, 5, 2, 5), []int{3, 2}, fan(2, 3, 5, 1, 5), api.Mark{Session: 2, User: 5}, true},
		{fan(0, 3, 5, 1, 5, 2, 5), []int{3}, fan(3, 1, 5, 2, 5), api.Mark{Session: 3, User: 5}, true},
		{fan(2, 1, 5, 2, 5, 3, 5), []int{3, 2, 1, 3, 3}, fan(3, 1, 5, 2, 5), api.Mark{Session: 3, User: 5}, true},
		{fan(3, 1, 5, 2, 5, 3, 5), []int{3, 2}, fan(2, 1, 5, 3, 5), api.Mark{Session: 2, User: 5}, true},
		{fan(2, 2, 9, 2, 5, 2, 7), []int{2}, fan(2, 2, 5, 2, 7), api.Mark{Session: 2, User: 9}, true},
		{fan(7, 9, 5, 8, 5), []int{9, 8}, fan(8, 9, 5), api.Mark{Session: 8, User: 5}, true},
		{fan(api.MaxInt, api.MinInt, 5, 0, 5), []int{0, api.MinInt}, fan(api.MinInt, 0, 5), api.Mark{Session: api.MinInt, User: 5}, true},
		{fan(0, 0, 0), []int{0}, fan(0), api.Mark{}, true},
		{fan(5, -3, 1), []int{-3}, fan(-3), api.Mark{Session: -3, User: 1}, true},
	} {
		if got, m, ok := fanout.Next(x.f, x.ready...); !fanout.Same(got, x.want) || m != x.m || ok != x.ok {
			t.Errorf("case %d: %v, %v, %v", k, got, m, ok)
		}
	}
}

func TestP20_4_Memory(t *testing.T) {
	calls := map[string]func(f api.Fan) api.Fan{
		"Add":           func(f api.Fan) api.Fan { got, _ := fanout.Add(f, 9, 9); return got },
		"Add of one":    func(f api.Fan) api.Fan { got, _ := fanout.Add(f, 1, 5); return got },
		"Strike":        func(f api.Fan) api.Fan { got, _ := fanout.Strike(f, 1, 5); return got },
		"Strike, none":  func(f api.Fan) api.Fan { got, _ := fanout.Strike(f, 9, 5); return got },
		"Drop":          func(f api.Fan) api.Fan { got, _ := fanout.Drop(f, 1); return got },
		"Drop of none":  func(f api.Fan) api.Fan { got, _ := fanout.Drop(f, 9); return got },
		"Next":          func(f api.Fan) api.Fan { got, _, _ := fanout.Next(f, 2, 1); return got },
		"Next of none":  func(f api.Fan) api.Fan { got, _, _ := fanout.Next(f, 9); return got },
		"only asked of": func(f api.Fan) api.Fan { fanout.Right(f); fanout.Same(f, f); return api.Fan{} },
	}
	for name, call := range calls {
		f := fan(0, 1, 5, 2, 5, 1, 6)
		marks, kept := probe.Roomy(f.Marks, api.Mark{Session: 77, User: 7})
		f.Marks = marks
		got := call(f)
		if !kept() {
			t.Errorf("%s: what was handed in is changed", name)
		}
		if probe.Shares(got.Marks, marks) {
			t.Errorf("%s: memory is shared", name)
		}
	}
	ready, kept := probe.Roomy([]int{3, 2, 1}, 7)
	if fanout.Next(fan(0, 1, 5, 2, 5), ready...); !kept() {
		t.Error("Next changes who is ready")
	}
	full := many(512)
	if got, _ := fanout.Add(full, 99, 1); probe.Shares(got.Marks, full.Marks) {
		t.Error("memory is shared, where there is no room")
	}
}

func TestP20_5_Turns(t *testing.T) {
	rnd := rand.New(rand.NewSource(25))
	for range 200 {
		var f api.Fan
		for range rnd.Intn(60) {
			f, _ = fanout.Add(f, rnd.Intn(8), rnd.Intn(16)+1)
		}
		f.Turn = rnd.Intn(9)
		ready := rnd.Perm(8)[:rnd.Intn(9)]
		left := map[int]int{}
		for _, m := range f.Marks {
			left[m.Session]++
		}
		turns := map[int]int{}
		for {
			before := f
			var m api.Mark
			var ok bool
			if f, m, ok = fanout.Next(f, ready...); !ok {
				break
			}
			if !slices.Contains(before.Marks, m) || !slices.Contains(ready, m.Session) || !fanout.Right(f) || len(f.Marks) != len(before.Marks)-1 {
				t.Fatalf("%v is told of %v", m, before)
			}
			turns[m.Session]++
			left[m.Session]--
			for _, s := range ready {
				if left[s] > 0 && turns[s] < turns[m.Session]-1 {
					t.Fatalf("%d has %d turns, and %d has %d", m.Session, turns[m.Session], s, turns[s])
				}
			}
		}
		for _, s := range ready {
			if left[s] > 0 {
				t.Fatalf("%d had not all turns", s)
			}
		}
	}
}
