package sat_test

import (
	"math/big"
	"math/rand"
	"slices"
	"testing"

	"nightjar/api"
	"nightjar/sat"
)

// edges are the numbers at which a range, or a product of two, is most likely to be missed.
var edges = []int{api.MinInt, api.MinInt + 1, -api.Most, -2, -1, 0, 1, 2, 3, 1<<20 - 1, 1 << 20, 1<<20 + 1, api.Most / 2, api.Most - 1, api.Most, api.Most + 1, 1 << 62, api.MaxInt - 1, api.MaxInt}

// clamped reckons without bound, so that no wrap-round can hide.
func clamped(n *big.Int) int {
	if n.Sign() < 0 {
		return 0
	}
	if n.Cmp(big.NewInt(api.Most)) > 0 {
		return api.Most
	}
	return int(n.Int64())
}

func wide(n int) *big.Int {
	return big.NewInt(int64(clamped(big.NewInt(int64(n)))))
}

func TestP1_1_Clamp(t *testing.T) {
	for _, x := range [][2]int{{-5, 0}, {-1, 0}, {0, 0}, {1, 1}, {7, 7}, {api.Most - 1, api.Most - 1}, {api.Most, api.Most}, {api.Most + 1, api.Most}, {api.MaxInt, api.Most}, {api.MinInt, 0}} {
		if got := sat.Clamp(x[0]); got != x[1] {
			t.Errorf("Clamp(%d) = %d, not %d", x[0], got, x[1])
		}
	}
}

func TestP1_2_TwoNumbers(t *testing.T) {
	for _, a := range edges {
		for _, b := range edges {
			if got, want := sat.Add(a, b), clamped(new(big.Int).Add(wide(a), wide(b))); got != want {
				t.Errorf("Add(%d, %d) = %d, not %d", a, b, got, want)
			}
			if got, want := sat.Sub(a, b), clamped(new(big.Int).Sub(wide(a), wide(b))); got != want {
				t.Errorf("Sub(%d, %d) = %d, not %d", a, b, got, want)
			}
			if got, want := sat.Mul(a, b), clamped(new(big.Int).Mul(wide(a), wide(b))); got != want {
				t.Errorf("Mul(%d, %d) = %d, not %d", a, b, got, want)
			}
		}
	}
	for k, x := range [][2]int{{sat.Sub(3, 5), 0}, {sat.Add(3, 4), 7}, {sat.Add(-3, 4), 4}, {sat.Sub(9, 4), 5}, {sat.Sub(4, -9), 4}, {sat.Mul(6, 7), 42}, {sat.Mul(-1, 5), 0}, {sat.Mul(3, api.Most/3), api.Most - 1}} {
		if x[0] != x[1] {
			t.Errorf("case %d: %d, not %d", k, x[0], x[1])
		}
	}
}

func TestP1_3_Lists(t *testing.T) {
	for k, x := range []struct {
		l         []int
		sum, mean int
	}{
		{nil, 0, 0}, {[]int{}, 0, 0}, {[]int{3, 4}, 7, 3}, {[]int{1, -2, 3}, 4, 1}, {[]int{-5, 4}, 4, 2},
		{[]int{5}, 5, 5}, {[]int{api.Most, 1}, api.Most, api.Most / 2}, {[]int{api.Most, api.Most}, api.Most, api.Most / 2},
		{[]int{api.MaxInt, api.MaxInt, api.MaxInt}, api.Most, api.Most / 3}, {[]int{api.MinInt, api.MinInt}, 0, 0},
		{[]int{api.Most, api.MinInt}, api.Most, api.Most / 2},
	} {
		if got := sat.Sum(x.l...); got != x.sum {
			t.Errorf("case %d: Sum = %d, not %d", k, got, x.sum)
		}
		if got := sat.Mean(x.l...); got != x.mean {
			t.Errorf("case %d: Mean = %d, not %d", k, got, x.mean)
		}
	}
}

func TestP1_4_RangeAndOrder(t *testing.T) {
	rnd := rand.New(rand.NewSource(1))
	for range 2000 {
		l := make([]int, rnd.Intn(9))
		total := new(big.Int)
		for i := range l {
			l[i] = edges[rnd.Intn(len(edges))] + rnd.Intn(3)
			total.Add(total, wide(l[i]))
		}
		before := slices.Clone(l)
		sum, mean := sat.Sum(l...), sat.Mean(l...)
		if !slices.Equal(l, before) {
			t.Fatalf("%v became %v", before, l)
		}
		if sum != clamped(total) {
			t.Fatalf("Sum(%v) = %d, not %d", l, sum, clamped(total))
		}
		if mean < 0 || mean > api.Most {
			t.Fatalf("Mean(%v) = %d", l, mean)
		}
		rnd.Shuffle(len(l), func(i, j int) { l[i], l[j] = l[j], l[i] })
		if sat.Sum(l...) != sum || sat.Mean(l...) != mean {
			t.Fatalf("%v: another order tells another number", l)
		}
	}
}
