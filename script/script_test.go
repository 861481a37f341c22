package script_test

import (
	"bytes"
	"math/rand"
	"slices"
	"testing"

	"nightjar/api"
	"nightjar/probe"
	"nightjar/script"
)

func alike(a, b api.Act) bool {
	return a.Do == b.Do && a.Who == b.Who && a.K == b.K && a.Order == b.Order && bytes.Equal(a.Bytes, b.Bytes)
}

func TestP26_1_Acts(t *testing.T) {
	for k, x := range []struct {
		b    []byte
		want api.Act
	}{
		{[]byte{12, 1, 0, 5}, api.Act{Do: api.DoStart, Who: 2, K: 5000}},
		{[]byte{12, 0, 1, 0}, api.Act{Do: api.DoStart, Who: 1, K: 256000}},
		{[]byte{252, 255, 255, 255}, api.Act{Do: api.DoStart, Who: 1, K: 65535000}},
		{[]byte{0, 0, 9, 9}, api.Act{Do: api.DoTick, Who: 1}},
		{[]byte{3, 2, 9, 9}, api.Act{Do: api.DoTick, Who: 3}},
		{[]byte{4, 3, 9, 8}, api.Act{Do: api.DoCome, Who: 1, K: 9}},
		{[]byte{9, 4, 255, 8}, api.Act{Do: api.DoCome, Who: 2, K: 255}},
		{[]byte{10, 5, 7, 8}, api.Act{Do: api.DoLose, Who: 3, K: 7}},
		{[]byte{11, 5, 7, 8}, api.Act{Do: api.DoTwice, Who: 3, K: 7}},
		{[]byte{13, 5, 7, 8}, api.Act{Do: api.DoCrash, Who: 3}},
		{[]byte{14, 0, 0, 0}, api.Act{Do: api.DoOrder, Who: 1, Order: api.Order{Kind: api.KindStatus, Status: 1}}},
		{[]byte{14, 0, 4, 5}, api.Act{Do: api.DoOrder, Who: 1, Order: api.Order{Kind: api.KindStatus, Status: 3}}},
		{[]byte{14, 0, 1, 0}, api.Act{Do: api.DoOrder, Who: 1, Order: api.Order{Kind: api.KindRoster, Op: 1, User: 1}}},
		{[]byte{14, 0, 2, 6}, api.Act{Do: api.DoOrder, Who: 1, Order: api.Order{Kind: api.KindRoster, Op: 7, User: 1}}},
		{[]byte{14, 0, 5, 7}, api.Act{Do: api.DoOrder, Who: 1, Order: api.Order{Kind: api.KindRoster, Op: 1, User: 2}}},
		{[]byte{14, 0, 254, 20}, api.Act{Do: api.DoOrder, Who: 1, Order: api.Order{Kind: api.KindRoster, Op: 7, User: 3}}},
		{[]byte{14, 0, 1, 21}, api.Act{Do: api.DoOrder, Who: 1, Order: api.Order{Kind: api.KindRoster, Op: 1, User: 1}}},
		{[]byte{14, 0, 1, 255}, api.Act{Do: api.DoOrder, Who: 1, Order: api.Order{Kind: api.KindRoster, Op: 4, User: 1}}},
		{[]byte{14, 0, 3, 9}, api.Act{Do: api.DoOrder, Who: 1, Order: api.Order{Kind: api.KindBye}}},
		{[]byte{15, 0, 3, 9}, api.Act{Do: api.DoInject, Who: 1, Bytes: []byte{3, 9}}},
		{[]byte{31, 1, 0, 0}, api.Act{Do: api.DoInject, Who: 2, Bytes: []byte{0, 0}}},
	} {
		if got := script.Acts(x.b); len(got) != 1 || !alike(got[0], x.want) {
			t.Errorf("case %d: %+v, not %+v", k, got, x.want)
		}
	}
}

// made is what the chapter says of four bytes.
func made(p, q, r, s int) api.Act {
	a := api.Act{Who: q%3 + 1}
	kind := p % 16
	switch {
	case kind <= 3:
	case kind <= 9:
		a.Do, a.K = 1, r
	case kind <= 11:
		a.Do, a.K = kind-8, r
	case kind == 12:
		a.Do, a.K = 4, (r*256+s)*1000
	case kind == 13:
		a.Do = 5
	case kind == 14:
		a.Do = 6
		switch r % 4 {
		case 0:
			a.Order = api.Order{Kind: 6, Status: s%3 + 1}
		case 1, 2:
			a.Order = api.Order{Kind: 7, Op: s%7 + 1, User: (s/7)%3 + 1}
		case 3:
			a.Order = api.Order{Kind: 10}
		}
	default:
		a.Do, a.Bytes = 7, []byte{byte(r), byte(s)}
	}
	return a
}

func TestP26_1_AnyBytes(t *testing.T) {
	rnd := rand.New(rand.NewSource(29))
	for n := range 600 {
		b := make([]byte, n)
		rnd.Read(b)
		var want []api.Act
		for i := 0; i+4 <= n; i += 4 {
			want = append(want, made(int(b[i]), int(b[i+1]), int(b[i+2]), int(b[i+3])))
		}
		if got := script.Acts(b); !slices.EqualFunc(got, want, alike) {
			t.Fatalf("of %v: %+v, not %+v", b, got, want)
		}
	}
	if len(script.Acts(nil)) != 0 || len(script.Acts([]byte{1, 2, 3})) != 0 {
		t.Error("acts of too few bytes")
	}
}

func TestP26_2_Named(t *testing.T) {
	for do, name := range []string{"tick", "come", "lose", "twice", "start", "crash", "order", "inject"} {
		if got := script.Named(do); got != name {
			t.Errorf("Named of %d: %q", do, got)
		}
	}
	for _, do := range []int{api.MinInt, -1, 8, 9, api.MaxInt} {
		if got := script.Named(do); got != "" {
			t.Errorf("Named of %d: %q", do, got)
		}
	}
}

func TestP26_2_Count(t *testing.T) {
	l := []api.Act{{Do: 1}, {Do: 2, K: 1}, {Do: 1, K: 5}, {}, {Do: 99}, {Do: -1}}
	for do, want := range map[int]int{0: 1, 1: 2, 2: 1, 3: 0, 99: 1, -1: 1, api.MaxInt: 0} {
		if got := script.Count(l, do); got != want {
			t.Errorf("Count of %d: %d", do, got)
		}
	}
	if script.Count(nil, 0) != 0 {
		t.Error("Count of none")
	}
}

func TestP26_3_Memory(t *testing.T) {
	b, kept := probe.Roomy([]byte{15, 0, 3, 9, 15, 0, 4, 8, 1}, 7)
	got := script.Acts(b)
	script.Count(got, 7)
	if !kept() {
		t.Error("what is handed in is changed")
	}
	if probe.Shares(got[0].Bytes, b) || probe.Shares(got[0].Bytes, got[1].Bytes) {
		t.Error("memory is shared")
	}
	b[2] = 50
	if got[0].Bytes[0] != 3 {
		t.Error("what is handed in is kept")
	}
}
