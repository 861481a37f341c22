package rtt_test

import (
	"math/rand"
	"testing"

	"nightjar/api"
	"nightjar/rtt"
)

// some is a right Rtt, often at an edge.
func some(rnd *rand.Rand) api.Rtt {
	pick := func(least, most int) int {
		switch rnd.Intn(4) {
		case 0:
			return least
		case 1:
			return most
		}
		return least + rnd.Intn(most-least+1)
	}
	e := api.Rtt{Rto: pick(2, 64), Fails: pick(0, 100)}
	if rnd.Intn(4) > 0 {
		e.S, e.V, e.Has = pick(0, 32768), pick(0, 16384), true
	}
	return e
}

// sampled is what the chapter says of Sample, of a right e.
func sampled(e api.Rtt, r int) api.Rtt {
	r = max(0, min(4096, r))
	s, v := 8*r, 2*r
	if e.Has {
		d := r - e.S/8
		s = e.S + d
		if d < 0 {
			d = -d
		}
		v = e.V - e.V/4 + d
	}
	rto := s / 8
	if v > 1 {
		rto += v
	} else {
		rto++
	}
	return api.Rtt{S: s, V: v, Rto: max(2, min(64, rto)), Has: true}
}

var wrong = []api.Rtt{
	{}, {Rto: 1}, {Rto: 65}, {Rto: -8}, {Rto: 8, Fails: -1}, {Rto: 8, Fails: 101},
	{Rto: 8, S: 1}, {Rto: 8, V: 1}, {Rto: 8, S: -1, Has: true}, {Rto: 8, S: 32769, Has: true},
	{Rto: 8, V: -1, Has: true}, {Rto: 8, V: 16385, Has: true}, {Rto: 8, S: api.MaxInt, V: api.MaxInt, Has: true},
	{Rto: api.MinInt, Fails: api.MaxInt}, {S: 80, V: 20, Rto: 30},
}

func TestP9_1_StartAndRight(t *testing.T) {
	if rtt.Start() != (api.Rtt{Rto: 8}) {
		t.Errorf("Start is %+v", rtt.Start())
	}
	for _, e := range []api.Rtt{rtt.Start(), {Rto: 2}, {Rto: 64, Fails: 100}, {Rto: 2, Has: true}, {S: 32768, V: 16384, Rto: 64, Fails: 100, Has: true}, {S: 1, V: 1, Rto: 3, Has: true}} {
		if !rtt.Right(e) {
			t.Errorf("not right: %+v", e)
		}
	}
	for _, e := range wrong {
		if rtt.Right(e) {
			t.Errorf("right: %+v", e)
		}
	}
}

func TestP9_2_Sample(t *testing.T) {
	if got := rtt.Sample(rtt.Start(), 10); got != (api.Rtt{S: 80, V: 20, Rto: 30, Has: true}) {
		t.Errorf("Sample of 10: %+v", got)
	}
	if got := rtt.Sample(api.Rtt{S: 80, V: 20, Rto: 30, Fails: 7, Has: true}, 4); got != (api.Rtt{S: 74, V: 21, Rto: 30, Has: true}) {
		t.Errorf("Sample of 4: %+v", got)
	}
	if got := rtt.Sample(rtt.Start(), 0); got != (api.Rtt{Rto: 2, Has: true}) {
		t.Errorf("Sample of 0: %+v", got)
	}
	rounds := []int{api.MinInt, -1, 0, 1, 2, 3, 10, 63, 64, 4095, 4096, 4097, api.MaxInt}
	for _, r := range rounds {
		for _, e := range wrong {
			if got := rtt.Sample(e, r); got != sampled(rtt.Start(), r) {
				t.Errorf("Sample of %+v, %d: %+v", e, r, got)
			}
		}
	}
	rnd := rand.New(rand.NewSource(13))
	for range 20000 {
		e, r := some(rnd), rounds[rnd.Intn(len(rounds))]
		if rnd.Intn(2) == 0 {
			r = rnd.Intn(90)
		}
		if got := rtt.Sample(e, r); got != sampled(e, r) {
			t.Fatalf("Sample of %+v, %d: %+v, not %+v", e, r, got, sampled(e, r))
		}
	}
}

func TestP9_3_Backoff(t *testing.T) {
	for _, e := range wrong {
		if got := rtt.Backoff(e); got != (api.Rtt{Rto: 16, Fails: 1}) {
			t.Errorf("Backoff of %+v: %+v", e, got)
		}
	}
	e := rtt.Start()
	for n := 1; n <= 105; n++ {
		e = rtt.Backoff(e)
		want := api.Rtt{Rto: 64, Fails: min(n, 100)}
		if n < 3 {
			want.Rto = 8 << n
		}
		if e != want {
			t.Errorf("behind %d: %+v", n, e)
		}
	}
	rnd := rand.New(rand.NewSource(14))
	for range 2000 {
		e := some(rnd)
		want := e
		want.Rto, want.Fails = min(64, e.Rto*2), min(100, e.Fails+1)
		if got := rtt.Backoff(e); got != want {
			t.Fatalf("Backoff of %+v: %+v", e, got)
		}
	}
}

func TestP9_4_StaysRight(t *testing.T) {
	rnd := rand.New(rand.NewSource(15))
	for range 20000 {
		e := some(rnd)
		for range 5 {
			if e = rtt.Sample(e, rnd.Intn(5000)-200); !rtt.Right(e) {
				t.Fatalf("not right: %+v", e)
			}
			if e = rtt.Backoff(e); !rtt.Right(e) {
				t.Fatalf("not right: %+v", e)
			}
		}
	}
	for _, r := range []int{0, 1, 5, 30, 4096} {
		e := rtt.Sample(rtt.Start(), rnd.Intn(4097))
		for range 300 {
			e = rtt.Sample(e, r)
		}
		if e.S/8 != r || e.V > 3 {
			t.Errorf("like times of %d come to %+v", r, e)
		}
	}
}
