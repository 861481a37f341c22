package sub_test

import (
	"testing"

	"nightjar/api"
	"nightjar/sub"
)

// table is the chapter's, a text for each state, a sign for each op.
var table = []string{
	"1----4-",
	"-023-4-",
	"-0--04-",
	"10---4-",
	"------0",
}

func TestP16_1_Step(t *testing.T) {
	if got, err := sub.Step(api.RelAsked, api.OpApprove); got != api.RelMay || err != api.OK {
		t.Errorf("Step of RelAsked and OpApprove: %d, %d", got, err)
	}
	for state := range 5 {
		for op := 1; op <= 7; op++ {
			want, code := 0, api.ErrState
			if sign := table[state][op-1]; sign != '-' {
				want, code = int(sign-'0'), api.OK
			}
			if got, err := sub.Step(state, op); got != want || err != code {
				t.Errorf("Step of %d and %d: %d, %d, not %d, %d", state, op, got, err, want, code)
			}
		}
	}
	for _, x := range [][2]int{{-1, 1}, {5, 1}, {0, 0}, {0, 8}, {4, 0}, {4, 8}, {-1, 0}, {5, 8}, {api.MinInt, 1}, {api.MaxInt, 7}, {0, api.MinInt}, {0, api.MaxInt}, {0, -1}} {
		if got, err := sub.Step(x[0], x[1]); got != 0 || err != api.ErrArg {
			t.Errorf("Step of %d and %d: %d, %d", x[0], x[1], got, err)
		}
	}
}

func TestP16_2_Mine(t *testing.T) {
	for op := -3; op < 12; op++ {
		if sub.Mine(op) != (op == 1 || op == 2) {
			t.Errorf("Mine of %d is %v", op, sub.Mine(op))
		}
	}
	if sub.Mine(api.MinInt) || sub.Mine(api.MaxInt) {
		t.Error("Mine of no op")
	}
}

func TestP16_3_Named(t *testing.T) {
	for state, name := range []string{"none", "asked", "may", "denied", "blocked"} {
		if got := sub.Named(state); got != name {
			t.Errorf("Named of %d: %q", state, got)
		}
	}
	for _, state := range []int{api.MinInt, -1, 5, 6, api.MaxInt} {
		if got := sub.Named(state); got != "" {
			t.Errorf("Named of %d: %q", state, got)
		}
	}
}

func TestP16_4_OnlyBehind(t *testing.T) {
	for state := range 5 {
		for op := 1; op <= 7; op++ {
			got, err := sub.Step(state, op)
			if err == api.OK && got == api.RelMay && op != api.OpApprove {
				t.Errorf("%d may watch by %d", state, op)
			}
			if err == api.OK && state == api.RelBlocked && op != api.OpUnblock {
				t.Errorf("blocked, and let go by %d", op)
			}
			if err != api.OK && got != 0 {
				t.Errorf("beside an error: %d", got)
			}
		}
	}
}
