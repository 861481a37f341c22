package timer_test

import (
	"cmp"
	"math/rand"
	"slices"
	"testing"

	"nightjar/api"
	"nightjar/probe"
	"nightjar/timer"
)

// row is timers of pairs: an ID, and when it is due.
func row(pairs ...int) []api.Timer {
	var t []api.Timer
	for i := 0; i+1 < len(pairs); i += 2 {
		t = append(t, api.Timer{ID: pairs[i], At: pairs[i+1]})
	}
	return t
}

// many is n timers, of the IDs 1 to n, due at 10 times these.
func many(n int) []api.Timer {
	var t []api.Timer
	for id := 1; id <= n; id++ {
		t = append(t, api.Timer{ID: id, At: 10 * id})
	}
	return t
}

func TestP13_1_Right(t *testing.T) {
	for _, x := range [][]api.Timer{nil, {}, row(1, 5), row(0, 0), row(-7, api.MinInt, 7, api.MaxInt), row(1, 5, 2, 5), row(2, 4, 1, 5), row(-1, 5, 0, 5, 1, 5), many(63), many(64), row(api.MinInt, 1, api.MaxInt, 1)} {
		if !timer.Right(x) {
			t.Errorf("not right: %v", x)
		}
	}
	for _, x := range [][]api.Timer{row(2, 5, 1, 5), row(1, 5, 1, 5), row(1, 5, 1, 6), row(1, 5, 2, 4), row(1, 1, 2, 2, 1, 3), row(1, 1, 3, 2, 2, 2), many(65), row(1, api.MaxInt, 2, api.MinInt)} {
		if timer.Right(x) {
			t.Errorf("right: %v", x)
		}
	}
}

func TestP13_2_Set(t *testing.T) {
	for k, x := range []struct {
		t      []api.Timer
		id, at int
		want   []api.Timer
		ok     bool
	}{
		{nil, 1, 9, row(1, 9), true},
		{row(1, 9), 2, 5, row(2, 5, 1, 9), true},
		{row(1, 9), 2, 9, row(1, 9, 2, 9), true},
		{row(2, 9), 1, 9, row(1, 9, 2, 9), true},
		{row(1, 9), 2, 10, row(1, 9, 2, 10), true},
		{row(1, 9, 3, 9), 2, 9, row(1, 9, 2, 9, 3, 9), true},
		{row(1, 9, 2, 12), 1, 15, row(2, 12, 1, 15), true},
		{row(1, 9, 2, 12), 2, 3, row(2, 3, 1, 9), true},
		{row(1, 9, 2, 12), 1, 9, row(1, 9, 2, 12), true},
		{row(1, 9), api.MinInt, api.MaxInt, row(1, 9, api.MinInt, api.MaxInt), true},
		{row(1, 9), api.MaxInt, api.MinInt, row(api.MaxInt, api.MinInt, 1, 9), true},
		{many(63), 64, 640, many(64), true},
		{many(64), 65, 5, many(64), false},
		{many(64), 64, 640, many(64), true},
		{many(64), 64, 5, append(row(64, 5), many(63)...), true},
	} {
		got, ok := timer.Set(x.t, x.id, x.at)
		if !slices.Equal(got, x.want) || ok != x.ok {
			t.Errorf("case %d: %v, %v", k, got, ok)
		}
	}
}

func TestP13_2_Clear(t *testing.T) {
	for k, x := range []struct {
		t    []api.Timer
		id   int
		want []api.Timer
		ok   bool
	}{
		{nil, 1, nil, false}, {row(1, 9), 1, nil, true}, {row(1, 9), 9, row(1, 9), false}, {row(1, 9), 0, row(1, 9), false},
		{row(1, 9, 2, 12, 3, 13), 2, row(1, 9, 3, 13), true}, {many(64), 64, many(63), true}, {many(64), 65, many(64), false},
	} {
		got, ok := timer.Clear(x.t, x.id)
		if !slices.Equal(got, x.want) || ok != x.ok {
			t.Errorf("case %d: %v, %v", k, got, ok)
		}
	}
}

func TestP13_3_AtAndNext(t *testing.T) {
	x := row(7, -4, 5, 9, 6, 9)
	for _, y := range []struct {
		id, at int
		ok     bool
	}{{7, -4, true}, {5, 9, true}, {6, 9, true}, {9, 0, false}, {0, 0, false}, {-4, 0, false}} {
		if at, ok := timer.At(x, y.id); at != y.at || ok != y.ok {
			t.Errorf("At of %d: %d, %v", y.id, at, ok)
		}
	}
	if at, ok := timer.Next(x); at != -4 || !ok {
		t.Errorf("Next: %d, %v", at, ok)
	}
	if at, ok := timer.Next(nil); at != 0 || ok {
		t.Errorf("Next of none: %d, %v", at, ok)
	}
	if at, ok := timer.At(nil, 0); at != 0 || ok {
		t.Errorf("At of none: %d, %v", at, ok)
	}
}

func TestP13_4_Due(t *testing.T) {
	first, _ := timer.Set(nil, 1, 9)
	both, _ := timer.Set(first, 2, 5)
	if rest, due := timer.Due(both, 5); !slices.Equal(rest, row(1, 9)) || !slices.Equal(due, []int{2}) {
		t.Errorf("Due at 5: %v, %v", rest, due)
	}
	x := row(7, 4, 5, 9, 6, 9, 1, 10)
	for k, y := range []struct {
		now  int
		rest []api.Timer
		due  []int
	}{
		{3, x, nil}, {4, x[1:], []int{7}}, {8, x[1:], []int{7}}, {9, x[3:], []int{7, 5, 6}}, {10, nil, []int{7, 5, 6, 1}}, {api.MaxInt, nil, []int{7, 5, 6, 1}}, {api.MinInt, x, nil},
	} {
		if rest, due := timer.Due(x, y.now); !slices.Equal(rest, y.rest) || !slices.Equal(due, y.due) {
			t.Errorf("case %d: %v, %v", k, rest, due)
		}
	}
	if rest, due := timer.Due(nil, 5); len(rest) != 0 || len(due) != 0 {
		t.Errorf("Due of none: %v, %v", rest, due)
	}
}

func TestP13_5_Memory(t *testing.T) {
	calls := map[string]func(x []api.Timer) []api.Timer{
		"Set of a new one":   func(x []api.Timer) []api.Timer { got, _ := timer.Set(x, 4, 1); return got },
		"Set of the last":    func(x []api.Timer) []api.Timer { got, _ := timer.Set(x, 4, 90); return got },
		"Set of an old one":  func(x []api.Timer) []api.Timer { got, _ := timer.Set(x, 2, 90); return got },
		"Clear":              func(x []api.Timer) []api.Timer { got, _ := timer.Clear(x, 2); return got },
		"Clear of none":      func(x []api.Timer) []api.Timer { got, _ := timer.Clear(x, 5); return got },
		"Due":                func(x []api.Timer) []api.Timer { got, _ := timer.Due(x, 20); return got },
		"Due of none":        func(x []api.Timer) []api.Timer { got, _ := timer.Due(x, 2); return got },
		"what is only asked": func(x []api.Timer) []api.Timer { timer.Right(x); timer.At(x, 2); timer.Next(x); return nil },
	}
	for name, call := range calls {
		x, kept := probe.Roomy(many(3), api.Timer{ID: 99, At: 99})
		got := call(x)
		if !kept() {
			t.Errorf("%s: what was handed in is changed", name)
		}
		if probe.Shares(got, x) {
			t.Errorf("%s: memory is shared", name)
		}
	}
	full := many(64)
	if got, _ := timer.Set(full, 99, 1); probe.Shares(got, full) {
		t.Error("Set without room shares memory")
	}
}

func TestP13_6_EachOnce(t *testing.T) {
	rnd := rand.New(rand.NewSource(19))
	for range 200 {
		var x []api.Timer
		model := map[int]int{}
		for now := range 200 {
			id, at := rnd.Intn(70), now+rnd.Intn(60)
			switch rnd.Intn(4) {
			case 0, 1:
				_, was := model[id]
				var ok bool
				if x, ok = timer.Set(x, id, at); ok != (was || len(model) < 64) {
					t.Fatalf("Set is %v of %d", ok, len(model))
				}
				if ok {
					model[id] = at
				}
			case 2:
				_, was := model[id]
				var ok bool
				if x, ok = timer.Clear(x, id); ok != was {
					t.Fatalf("Clear is %v", ok)
				}
				delete(model, id)
			case 3:
				var due []int
				x, due = timer.Due(x, now)
				for _, id := range due {
					if at, ok := model[id]; !ok || at > now {
						t.Fatalf("%d is due at %d, told at %d", id, at, now)
					}
					delete(model, id)
				}
			}
			var want []api.Timer
			for id, at := range model {
				want = append(want, api.Timer{ID: id, At: at})
			}
			slices.SortFunc(want, func(a, b api.Timer) int { return cmp.Or(cmp.Compare(a.At, b.At), cmp.Compare(a.ID, b.ID)) })
			if !slices.Equal(x, want) || !timer.Right(x) {
				t.Fatalf("%v, not %v", x, want)
			}
		}
	}
}
