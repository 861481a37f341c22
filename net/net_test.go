package net_test

import (
	"bytes"
	"math/rand"
	"slices"
	"testing"

	"nightjar/api"
	"nightjar/net"
	"nightjar/probe"
)

// some is the datagram of a number.
func some(n int) api.Dgram {
	return api.Dgram{From: n, To: n + 1, Bytes: []byte{byte(n), byte(n >> 8)}}
}

func many(from, to int) []api.Dgram {
	var l []api.Dgram
	for n := from; n < to; n++ {
		l = append(l, some(n))
	}
	return l
}

func alike(a, b api.Dgram) bool {
	return a.From == b.From && a.To == b.To && bytes.Equal(a.Bytes, b.Bytes)
}

// check holds a net against what should wait, and how many should be lost.
func check(t *testing.T, n *net.Net, lost int, want ...api.Dgram) {
	t.Helper()
	if got := n.All(); !slices.EqualFunc(got, want, alike) || n.Len() != len(want) || n.Lost() != lost {
		t.Fatalf("%v wait, %d, %d lost; not %v, %d lost", got, n.Len(), n.Lost(), want, lost)
	}
}

func TestP23_1_Send(t *testing.T) {
	n := net.New()
	check(t, n, 0)
	n.Send()
	check(t, n, 0)
	n.Send(some(1), some(2))
	n.Send(some(1))
	check(t, n, 0, some(1), some(2), some(1))
	n = net.New()
	n.Send(many(0, 63)...)
	n.Send(some(63))
	check(t, n, 0, many(0, 64)...)
	n.Send(some(64))
	check(t, n, 1, many(1, 65)...)
	n.Send(many(65, 70)...)
	check(t, n, 6, many(6, 70)...)
	n.Send(many(70, 270)...)
	check(t, n, 206, many(206, 270)...)
	check(t, net.New(), 0)
}

// places are numbers, and the places that they are among five.
var places = map[int]int{
	0: 0, 1: 1, 4: 4, 5: 0, 7: 2, 104: 4, -1: 4, -4: 1, -5: 0, -6: 4, -100: 0,
	api.MaxInt: api.MaxInt % 5, api.MinInt: 2, api.MinInt + 2: 4, api.MinInt + 3: 0,
}

func TestP23_2_Take(t *testing.T) {
	for k, place := range places {
		n := net.New()
		n.Send(many(0, 5)...)
		if got, ok := n.Take(k); !alike(got, some(place)) || !ok {
			t.Errorf("Take of %d: %v, %v", k, got, ok)
		}
		check(t, n, 0, slices.Delete(many(0, 5), place, place+1)...)
	}
	n := net.New()
	n.Send(some(1), some(2))
	if got, _ := n.Take(-1); !alike(got, some(2)) {
		t.Errorf("Take of -1: %v", got)
	}
	if got, _ := n.Take(-1); !alike(got, some(1)) {
		t.Errorf("Take of the last one: %v", got)
	}
	for _, k := range []int{0, 1, -1, api.MinInt, api.MaxInt} {
		if got, ok := n.Take(k); !alike(got, api.Dgram{}) || ok {
			t.Errorf("Take of none: %v, %v", got, ok)
		}
		if n.Lose(k) || n.Twice(k) {
			t.Error("Lose or Twice of none")
		}
	}
	check(t, n, 0)
}

func TestP23_2_LoseAndTwice(t *testing.T) {
	for k, place := range places {
		n := net.New()
		n.Send(many(0, 5)...)
		if !n.Lose(k) {
			t.Errorf("Lose of %d: false", k)
		}
		check(t, n, 1, slices.Delete(many(0, 5), place, place+1)...)
		n = net.New()
		n.Send(many(0, 5)...)
		if !n.Twice(k) {
			t.Errorf("Twice of %d: false", k)
		}
		check(t, n, 0, append(many(0, 5), some(place))...)
	}
}

func TestP23_2_TwiceOfFull(t *testing.T) {
	for _, place := range []int{0, 1, 63} {
		n := net.New()
		n.Send(many(0, 64)...)
		if !n.Twice(place) {
			t.Error("Twice is false")
		}
		check(t, n, 1, append(many(1, 64), some(place))...)
	}
}

func TestP23_3_Model(t *testing.T) {
	rnd := rand.New(rand.NewSource(27))
	for range 100 {
		n := net.New()
		var want []api.Dgram
		lost := 0
		for i := range 300 {
			k := rnd.Intn(400) - 200
			place := -1
			if len(want) > 0 {
				place = ((k % len(want)) + len(want)) % len(want)
			}
			switch rnd.Intn(7) {
			case 0:
				if _, ok := n.Take(k); ok != (place >= 0) {
					t.Fatal("Take is wrong")
				}
				if place >= 0 {
					want = slices.Delete(want, place, place+1)
				}
			case 1:
				if n.Lose(k) != (place >= 0) {
					t.Fatal("Lose is wrong")
				}
				if place >= 0 {
					want = slices.Delete(want, place, place+1)
					lost++
				}
			case 2:
				if n.Twice(k) != (place >= 0) {
					t.Fatal("Twice is wrong")
				}
				if place >= 0 {
					want = append(want, want[place])
				}
			default:
				l := many(i, i+rnd.Intn(4))
				n.Send(l...)
				want = append(want, l...)
			}
			over := max(0, len(want)-64)
			lost += over
			want = slices.Clone(want[over:])
			check(t, n, lost, want...)
		}
	}
}

func TestP23_4_Memory(t *testing.T) {
	b, kept := probe.Roomy([]byte{1, 2}, 7)
	l := []api.Dgram{{From: 1, To: 2, Bytes: b}, some(3), some(4)}
	n := net.New()
	n.Send(l[:2]...)
	n.Twice(0)
	if !kept() || !alike(l[2], some(4)) {
		t.Fatal("what is handed in is changed")
	}
	want := []api.Dgram{{From: 1, To: 2, Bytes: []byte{1, 2}}, some(3), {From: 1, To: 2, Bytes: []byte{1, 2}}}
	b[0], l[1].Bytes[0], l[0].From = 50, 50, 50
	check(t, n, 0, want...)
	one, two := n.All(), n.All()
	for i := range one {
		if probe.Shares(one[i].Bytes, two[i].Bytes) || probe.Shares(one[0].Bytes, two[2].Bytes) || probe.Shares(one[i].Bytes, b) {
			t.Error("All shares memory")
		}
	}
	if probe.Shares(one, two) || probe.Shares(one[0].Bytes, one[2].Bytes) {
		t.Error("All shares memory")
	}
	one[0].Bytes[0], one[1] = 60, some(9)
	_ = append(one, some(9))
	check(t, n, 0, want...)
	d, _ := n.Take(0)
	d.Bytes[0] = 70
	check(t, n, 0, want[1:]...)
	if probe.Shares(d.Bytes, two[0].Bytes) {
		t.Error("Take shares memory")
	}
	check(t, new(net.Net), 0)
}
