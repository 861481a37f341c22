package health_test

import (
	"testing"

	"nightjar/api"
	"nightjar/health"
)

const far = 1 << 41

func is(state, since int) api.Health {
	return api.Health{State: state, Since: since}
}

// others are states that are neither Alive nor Suspect.
var others = []int{0, 3, 4, -1, api.MinInt, api.MaxInt}

func TestP15_1_Start(t *testing.T) {
	for _, now := range []int{0, 1, 77, api.Most, far} {
		if got := health.Start(now); got != is(1, now) {
			t.Errorf("Start of %d: %+v", now, got)
		}
	}
}

func TestP15_2_Beat(t *testing.T) {
	for _, now := range []int{0, 5, 90, far} {
		if got := health.Beat(is(1, 50), now); got != is(1, 50) {
			t.Errorf("Beat of one alive: %+v", got)
		}
		if got := health.Beat(is(2, 50), now); got != is(1, now) {
			t.Errorf("Beat of one suspected: %+v", got)
		}
		for _, state := range others {
			if got := health.Beat(is(state, 50), now); got != is(state, 50) {
				t.Errorf("Beat of %d: %+v", state, got)
			}
		}
	}
}

func TestP15_3_Step(t *testing.T) {
	for k, x := range []struct {
		h             api.Health
		deadline, now int
		want          api.Health
	}{
		{is(1, 0), 10, 0, is(1, 0)}, {is(1, 0), 10, 10, is(1, 0)}, {is(1, 0), 10, 11, is(2, 11)}, {is(1, 0), 10, far, is(2, far)}, {is(1, 30), 10, 20, is(2, 20)},
		{is(2, 11), 10, 11, is(2, 11)}, {is(2, 11), 10, 18, is(2, 11)}, {is(2, 11), 10, 19, is(3, 19)}, {is(2, 11), 10, 20, is(3, 20)},
		{is(2, 11), 0, 18, is(2, 11)}, {is(2, 11), far, 19, is(3, 19)}, {is(2, far), 0, far, is(2, far)}, {is(2, 11), 10, 0, is(2, 11)},
	} {
		if got := health.Step(x.h, x.deadline, x.now); got != x.want {
			t.Errorf("case %d: %+v", k, got)
		}
	}
	for _, state := range others {
		for _, now := range []int{0, 50, 90, far} {
			if got := health.Step(is(state, 50), 10, now); got != is(state, 50) {
				t.Errorf("Step of %d: %+v", state, got)
			}
		}
	}
}

func TestP15_4_Next(t *testing.T) {
	for k, x := range []struct {
		h              api.Health
		deadline, want int
	}{
		{is(1, 0), 10, 11}, {is(1, 50), 0, 1}, {is(1, 0), far, far + 1}, {is(2, 11), 10, 19}, {is(2, 0), far, 8}, {is(2, far), 0, far + 8},
	} {
		if got := health.Next(x.h, x.deadline); got != x.want {
			t.Errorf("case %d: %d", k, got)
		}
	}
	for _, state := range others {
		if got := health.Next(is(state, 50), 10); got != -1 {
			t.Errorf("Next of %d: %d", state, got)
		}
	}
}

func TestP15_4_IsTheLeast(t *testing.T) {
	for state := 0; state <= 4; state++ {
		for since := range 12 {
			for deadline := range 12 {
				h := is(state, since)
				least := -1
				for now := range 40 {
					if health.Step(h, deadline, now) != h {
						least = now
						break
					}
				}
				if got := health.Next(h, deadline); got != least {
					t.Errorf("Next of %+v, %d: %d, not %d", h, deadline, got, least)
				}
			}
		}
	}
}

func TestP15_5_NineBehind(t *testing.T) {
	for _, deadline := range []int{0, 10, 1000} {
		h := health.Start(0)
		for now := range deadline + 50 {
			h = health.Step(h, deadline, now)
			want := api.Alive
			if now > deadline {
				want = api.Suspect
			}
			if now >= deadline+9 {
				want = api.Offline
			}
			if h.State != want {
				t.Fatalf("deadline %d, at %d: %+v", deadline, now, h)
			}
		}
		if h != health.Beat(h, 9999) || h != is(3, deadline+9) {
			t.Errorf("offline does not stay so: %+v", h)
		}
	}
}
