package roster_test

import (
	"cmp"
	"math/rand"
	"slices"
	"testing"

	"nightjar/api"
	"nightjar/probe"
	"nightjar/roster"
	"nightjar/sub"
)

// row is standings of threes: a watcher, a target, a state.
func row(threes ...int) []api.Rel {
	var l []api.Rel
	for i := 0; i+2 < len(threes); i += 3 {
		l = append(l, api.Rel{Watcher: threes[i], Target: threes[i+1], State: threes[i+2]})
	}
	return l
}

// lists is a row of so many watchers, eight at most, each of eight targets, but the last one of so many.
func lists(watchers, last int) []api.Rel {
	var l []api.Rel
	for w := 1; w <= watchers; w++ {
		many := 8
		if w == watchers {
			many = last
		}
		for t := 1; t <= many; t++ {
			l = append(l, api.Rel{Watcher: w, Target: 8 + t, State: 1})
		}
	}
	return l
}

func TestP17_1_Right(t *testing.T) {
	for k, l := range [][]api.Rel{nil, {}, row(1, 2, 1), row(16, 1, 4), row(1, 16, 2, 2, 1, 3), row(1, 2, 1, 1, 3, 1), lists(1, 8), lists(8, 7), lists(8, 8)} {
		if !roster.Right(l) {
			t.Errorf("case %d: not right: %v", k, l)
		}
	}
	nine := append(row(1, 2, 1), lists(1, 8)...)
	for k, l := range [][]api.Rel{
		row(0, 2, 1), row(17, 2, 1), row(2, 0, 1), row(2, 17, 1), row(-1, 2, 1), row(2, 2, 1), row(1, 2, 0), row(1, 2, 5), row(1, 2, -1),
		row(1, 3, 1, 1, 2, 1), row(2, 1, 1, 1, 3, 1), row(1, 2, 1, 1, 2, 2), row(1, 2, 1, 1, 2, 1), nine, append(lists(8, 8), row(9, 1, 1)...),
		row(api.MinInt, api.MaxInt, 1), row(1, 2, api.MaxInt),
	} {
		if roster.Right(l) {
			t.Errorf("case %d: right: %v", k, l)
		}
	}
}

func TestP17_1_State(t *testing.T) {
	l := row(1, 2, 3, 1, 3, 2, 2, 1, 4)
	for k, x := range [][3]int{{1, 2, 3}, {1, 3, 2}, {2, 1, 4}, {3, 1, 0}, {2, 3, 0}, {1, 1, 0}, {0, 0, 0}, {-1, 99, 0}, {api.MinInt, api.MaxInt, 0}} {
		if got := roster.State(l, x[0], x[1]); got != x[2] {
			t.Errorf("case %d: %d", k, got)
		}
	}
	if roster.State(nil, 1, 2) != 0 {
		t.Error("State of an empty row")
	}
}

func TestP17_2_Do(t *testing.T) {
	for k, x := range []struct {
		l             []api.Rel
		op, who, peer int
		want          []api.Rel
		err           api.Errno
	}{
		{nil, api.OpAsk, 1, 2, row(1, 2, 1), api.OK},
		{row(1, 2, 1), api.OpApprove, 2, 1, row(1, 2, 2), api.OK},
		{row(1, 2, 1), api.OpApprove, 1, 2, nil, api.ErrState},
		{row(1, 2, 1), api.OpDeny, 2, 1, row(1, 2, 3), api.OK},
		{row(1, 2, 3), api.OpAsk, 1, 2, row(1, 2, 1), api.OK},
		{row(1, 2, 2), api.OpRevoke, 2, 1, nil, api.OK},
		{row(1, 2, 2), api.OpLeave, 1, 2, nil, api.OK},
		{row(1, 2, 2), api.OpLeave, 2, 1, nil, api.ErrState},
		{nil, api.OpBlock, 2, 1, row(1, 2, 4), api.OK},
		{row(1, 2, 4), api.OpUnblock, 2, 1, nil, api.OK},
		{row(1, 2, 4), api.OpAsk, 1, 2, nil, api.ErrState},
		{row(1, 2, 4), api.OpUnblock, 1, 2, nil, api.ErrState},
		{row(1, 2, 1, 1, 4, 1, 2, 3, 1), api.OpAsk, 1, 3, row(1, 2, 1, 1, 3, 1, 1, 4, 1, 2, 3, 1), api.OK},
		{row(1, 2, 1, 3, 1, 1), api.OpAsk, 2, 16, row(1, 2, 1, 2, 16, 1, 3, 1, 1), api.OK},
		{row(1, 3, 1), api.OpAsk, 1, 2, row(1, 2, 1, 1, 3, 1), api.OK},
		{row(1, 2, 1, 2, 1, 2, 3, 1, 1), api.OpRevoke, 1, 2, row(1, 2, 1, 3, 1, 1), api.OK},
		{nil, 0, 1, 2, nil, api.ErrArg}, {nil, 8, 1, 2, nil, api.ErrArg}, {nil, -1, 1, 2, nil, api.ErrArg},
		{nil, api.MaxInt, 1, 2, nil, api.ErrArg}, {nil, api.MinInt, 1, 2, nil, api.ErrArg},
		{nil, api.OpAsk, 0, 2, nil, api.ErrArg}, {nil, api.OpAsk, 17, 2, nil, api.ErrArg}, {nil, api.OpAsk, 1, 0, nil, api.ErrArg},
		{nil, api.OpAsk, 1, 17, nil, api.ErrArg}, {nil, api.OpAsk, 3, 3, nil, api.ErrArg}, {nil, api.OpLeave, 3, 3, nil, api.ErrArg},
		{nil, api.OpLeave, 1, 2, nil, api.ErrState},
	} {
		if x.err != api.OK {
			x.want = x.l
		}
		if got, err := roster.Do(x.l, x.op, x.who, x.peer); !slices.Equal(got, x.want) || err != x.err {
			t.Errorf("case %d: %v, %d", k, got, err)
		}
	}
}

func TestP17_2_Full(t *testing.T) {
	for k, x := range []struct {
		l             []api.Rel
		op, who, peer int
		err           api.Errno
	}{
		{lists(1, 8), api.OpAsk, 1, 2, api.ErrFull},
		{lists(1, 8), api.OpBlock, 2, 1, api.ErrFull},
		{lists(1, 8), api.OpBlock, 9, 1, api.OK},
		{lists(1, 8), api.OpApprove, 9, 1, api.OK},
		{lists(1, 8), api.OpLeave, 1, 9, api.OK},
		{lists(1, 8), api.OpLeave, 1, 2, api.ErrState},
		{lists(1, 8), api.OpAsk, 1, 1, api.ErrArg},
		{lists(1, 8), api.OpAsk, 2, 1, api.OK},
		{lists(1, 7), api.OpAsk, 1, 2, api.OK},
		{lists(8, 8), api.OpAsk, 9, 1, api.ErrFull},
		{lists(8, 8), api.OpBlock, 1, 9, api.ErrFull},
		{lists(8, 8), api.OpApprove, 9, 1, api.OK},
		{lists(8, 8), api.OpAsk, 1, 9, api.ErrState},
		{lists(8, 7), api.OpAsk, 9, 1, api.OK},
	} {
		got, err := roster.Do(x.l, x.op, x.who, x.peer)
		if err != x.err || !roster.Right(got) || err != api.OK && !slices.Equal(got, x.l) {
			t.Errorf("case %d: %v, %d", k, got, err)
		}
	}
}

func TestP17_3_WatchersAndTargets(t *testing.T) {
	l := row(1, 2, 2, 1, 3, 1, 3, 1, 2, 3, 2, 2, 3, 4, 2, 4, 2, 3, 5, 2, 4, 6, 2, 2)
	for k, x := range []struct{ got, want []int }{
		{roster.Watchers(l, 2), []int{1, 3, 6}}, {roster.Watchers(l, 1), []int{3}}, {roster.Watchers(l, 3), nil}, {roster.Watchers(l, 0), nil}, {roster.Watchers(nil, 2), nil},
		{roster.Targets(l, 3), []int{1, 2, 4}}, {roster.Targets(l, 1), []int{2}}, {roster.Targets(l, 4), nil}, {roster.Targets(l, 99), nil}, {roster.Targets(nil, 3), nil},
	} {
		if !slices.Equal(x.got, x.want) {
			t.Errorf("case %d: %v, not %v", k, x.got, x.want)
		}
	}
	one, _ := roster.Do(nil, api.OpAsk, 1, 2)
	two, _ := roster.Do(one, api.OpApprove, 2, 1)
	if got := roster.Watchers(two, 2); !slices.Equal(got, []int{1}) || len(roster.Watchers(one, 2)) != 0 {
		t.Errorf("the Watchers of 2 are %v", got)
	}
}

func TestP17_4_Memory(t *testing.T) {
	for _, x := range [][3]int{{api.OpAsk, 1, 3}, {api.OpAsk, 3, 1}, {api.OpLeave, 1, 2}, {api.OpBlock, 2, 1}, {api.OpLeave, 9, 8}, {0, 0, 0}, {api.OpAsk, 1, 16}} {
		l, kept := probe.Roomy(row(1, 2, 2, 1, 4, 2, 2, 1, 2), api.Rel{Watcher: 9, Target: 8, State: 2})
		got, _ := roster.Do(l, x[0], x[1], x[2])
		roster.Right(l)
		roster.Watchers(l, 2)
		roster.Targets(l, 1)
		if !kept() {
			t.Errorf("%v: what was handed in is changed", x)
		}
		if probe.Shares(got, l) {
			t.Errorf("%v: memory is shared", x)
		}
	}
	full := lists(8, 8)
	if got, _ := roster.Do(full, api.OpAsk, 9, 1); probe.Shares(got, full) {
		t.Error("memory is shared, where there is no room")
	}
}

func TestP17_5_StaysRight(t *testing.T) {
	rnd := rand.New(rand.NewSource(22))
	codes := map[api.Errno]int{}
	for range 60 {
		var l []api.Rel
		model := map[[2]int]int{}
		for range 600 {
			op, who, peer := rnd.Intn(9), rnd.Intn(18), rnd.Intn(18)
			if rnd.Intn(3) > 0 {
				op = []int{api.OpAsk, api.OpBlock, api.OpApprove}[rnd.Intn(3)]
			}
			pair := [2]int{peer, who}
			if op == 1 || op == 2 {
				pair = [2]int{who, peer}
			}
			many := 0
			for p := range model {
				if p[0] == pair[0] {
					many++
				}
			}
			want := api.OK
			state, err := sub.Step(model[pair], op)
			switch {
			case op < 1 || op > 7 || who < 1 || who > 16 || peer < 1 || peer > 16 || who == peer:
				want = api.ErrArg
			case err != api.OK:
				want = err
			case model[pair] == 0 && (len(model) == 64 || many == 8):
				want = api.ErrFull
			case state == 0:
				delete(model, pair)
			default:
				model[pair] = state
			}
			var got api.Errno
			l, got = roster.Do(l, op, who, peer)
			codes[got]++
			var rows []api.Rel
			for p, s := range model {
				rows = append(rows, api.Rel{Watcher: p[0], Target: p[1], State: s})
			}
			slices.SortFunc(rows, func(a, b api.Rel) int {
				return cmp.Or(cmp.Compare(a.Watcher, b.Watcher), cmp.Compare(a.Target, b.Target))
			})
			if got != want || !slices.Equal(l, rows) || !roster.Right(l) {
				t.Fatalf("Do of %d by %d about %d: %d, not %d, %v", op, who, peer, got, want, l)
			}
		}
	}
	for _, code := range []api.Errno{api.OK, api.ErrArg, api.ErrFull, api.ErrState} {
		if codes[code] < 50 {
			t.Errorf("only %d of %d", codes[code], code)
		}
	}
}
