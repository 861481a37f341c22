package ring_test

import (
	"math/rand"
	"slices"
	"testing"

	"nightjar/api"
	"nightjar/probe"
	"nightjar/ring"
)

// check holds a ring against all that was pushed into it, and its room.
func check(t *testing.T, r *ring.Ring, pushed []int, room int) {
	t.Helper()
	lost := max(len(pushed)-room, 0)
	want := pushed[lost:]
	if got := r.All(); !slices.Equal(got, want) {
		t.Fatalf("room %d, %d pushed: All is %v, not %v", room, len(pushed), got, want)
	}
	if r.Len() != len(want) || r.Lost() != lost {
		t.Fatalf("room %d, %d pushed: Len %d, Lost %d", room, len(pushed), r.Len(), r.Lost())
	}
	last, ok := r.Last()
	if len(want) == 0 && (last != 0 || ok) || len(want) > 0 && (last != want[len(want)-1] || !ok) {
		t.Fatalf("room %d, %d pushed: Last %d, %v", room, len(pushed), last, ok)
	}
}

func TestP8_1_Room(t *testing.T) {
	for _, x := range [][2]int{{api.MinInt, 1}, {-1, 1}, {0, 1}, {1, 1}, {2, 2}, {63, 63}, {64, 64}, {65, 64}, {api.MaxInt, 64}} {
		r := ring.New(x[0])
		check(t, r, nil, x[1])
		var pushed []int
		for n := range 200 {
			r.Push(n)
			pushed = append(pushed, n)
			check(t, r, pushed, x[1])
		}
	}
}

func TestP8_2_Push(t *testing.T) {
	r := ring.New(2)
	r.Push(1, 2, 3)
	check(t, r, []int{1, 2, 3}, 2)
	r.Push()
	check(t, r, []int{1, 2, 3}, 2)
	r.Push(api.MinInt, 0, api.MaxInt, 0, 0)
	check(t, r, []int{1, 2, 3, api.MinInt, 0, api.MaxInt, 0, 0}, 2)
}

func TestP8_3_Memory(t *testing.T) {
	l, kept := probe.Roomy([]int{1, 2, 3}, 7)
	r := ring.New(4)
	r.Push(l...)
	if !kept() {
		t.Error("what was handed in was changed")
	}
	l[2] = 50
	check(t, r, []int{1, 2, 3}, 4)
	one, two := r.All(), r.All()
	if probe.Shares(one, l) || probe.Shares(one, two) {
		t.Error("All shares memory")
	}
	_ = append(one, 60)
	one[0] = 70
	check(t, r, []int{1, 2, 3}, 4)
	r.Push(4, 5)
	if !slices.Equal(two, []int{1, 2, 3}) {
		t.Error("an answer changes by a Push")
	}
}

func TestP8_3_Apart(t *testing.T) {
	a, b := ring.New(3), ring.New(3)
	a.Push(1)
	check(t, b, nil, 3)
	b.Push(2, 3)
	check(t, a, []int{1}, 3)
	check(t, b, []int{2, 3}, 3)
	check(t, new(ring.Ring), nil, 1)
	c := new(ring.Ring)
	c.Push(1, 2)
	check(t, c, []int{1, 2}, 1)
}

func TestP8_4_TheLast(t *testing.T) {
	rnd := rand.New(rand.NewSource(12))
	for range 200 {
		room := 1 + rnd.Intn(70)
		r := ring.New(room)
		var pushed []int
		for range rnd.Intn(30) {
			l := make([]int, rnd.Intn(20))
			for i := range l {
				l[i] = rnd.Intn(1000) - 500
			}
			if rnd.Intn(10) == 0 {
				l = append(l, rnd.Perm(150)...)
			}
			r.Push(l...)
			pushed = append(pushed, l...)
			check(t, r, pushed, min(room, 64))
		}
	}
}
