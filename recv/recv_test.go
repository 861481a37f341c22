package recv_test

import (
	"maps"
	"math/rand"
	"slices"
	"testing"

	"nightjar/api"
	"nightjar/probe"
	"nightjar/recv"
)

func note(seq int) api.Note {
	return api.Note{User: seq%16 + 1, Version: seq, Status: 2, Count: 1}
}

func item(seq int) api.Item {
	return api.Item{Seq: seq, Note: note(seq)}
}

func row(next int, seqs ...int) api.Recv {
	w := api.Recv{Next: next}
	for _, s := range seqs {
		w.Items = append(w.Items, item(s))
	}
	return w
}

func notes(seqs ...int) []api.Note {
	var l []api.Note
	for _, s := range seqs {
		l = append(l, note(s))
	}
	return l
}

const last = api.MaxID

var right = []api.Recv{row(1), row(1, 2), row(1, 8), row(1, 2, 3, 4, 5, 6, 7, 8), row(100, 102, 107), row(last), row(last - 1), row(last-2, last-1), row(last-8, last-7, last-1)}

var wrong = []api.Recv{
	row(0), row(-1), row(api.MinInt), row(last + 1), row(api.MaxInt), row(0, 1), row(1, 1), row(1, 0), row(1, 9), row(1, 2, 2), row(1, 3, 2),
	row(1, 2, 3, 4, 5, 6, 7, 8, 9), row(1, api.MaxInt), row(1, api.MinInt), row(last-1, last), row(last, last), row(last, last+1), row(last-2, last-1, last), row(api.MaxInt, api.MinInt), row(api.MaxInt-3, api.MaxInt-1),
}

func TestP10_1_StartRightSame(t *testing.T) {
	if s := recv.Start(); s.Next != 1 || len(s.Items) != 0 {
		t.Errorf("Start is %+v", s)
	}
	for _, w := range right {
		if !recv.Right(w) {
			t.Errorf("not right: %+v", w)
		}
	}
	for _, w := range wrong {
		if recv.Right(w) {
			t.Errorf("right: %+v", w)
		}
	}
	all := append(slices.Clone(right), wrong...)
	for i, a := range all {
		for j, b := range all {
			if recv.Same(a, b) != (i == j) {
				t.Errorf("Same of %+v and %+v is not %v", a, b, i == j)
			}
		}
	}
	if a := (api.Recv{Next: 1, Items: []api.Item{}}); !recv.Same(a, row(1)) || !recv.Same(row(1), a) {
		t.Error("a nil list and an empty one are not the same")
	}
	a, b := row(1, 3), row(1, 3)
	if b.Items[0].Note.Count++; recv.Same(a, b) {
		t.Error("another note is not seen")
	}
}

func TestP10_2_Take(t *testing.T) {
	for k, x := range []struct {
		w    api.Recv
		seq  int
		want api.Recv
		told []api.Note
	}{
		{row(1), 2, row(1, 2), nil},
		{row(1, 2), 1, row(3), notes(1, 2)},
		{row(1), 1, row(2), notes(1)},
		{row(1, 3), 1, row(2, 3), notes(1)},
		{row(1, 3), 2, row(1, 2, 3), nil},
		{row(1, 2, 4), 3, row(1, 2, 3, 4), nil},
		{row(1), 8, row(1, 8), nil},
		{row(1, 2, 3, 4, 5, 6, 7, 8), 1, row(9), notes(1, 2, 3, 4, 5, 6, 7, 8)},
		{row(1, 2, 3, 5), 1, row(4, 5), notes(1, 2, 3)},
		{row(last - 1), last - 1, row(last), notes(last - 1)},
		{row(last-2, last-1), last - 2, row(last), notes(last-2, last-1)},
		{row(last - 3), last - 1, row(last-3, last-1), nil},
	} {
		got, told := recv.Take(x.w, item(x.seq))
		if !recv.Same(got, x.want) || !slices.Equal(told, x.told) {
			t.Errorf("case %d: %+v, %v", k, got, told)
		}
	}
}

func TestP10_2_Refused(t *testing.T) {
	refuse := func(w api.Recv, seq int) {
		if got, told := recv.Take(w, item(seq)); !recv.Same(got, w) || len(told) != 0 {
			t.Errorf("Take of %+v, %d: %+v, %v", w, seq, got, told)
		}
	}
	for _, seq := range []int{api.MinInt, -1, 0, 1, 4, 13, 14, last, api.MaxInt, 7, 9} {
		refuse(row(5, 7, 9), seq)
	}
	for _, seq := range []int{last - 9, last - 1, last, last + 1} {
		refuse(row(last), seq)
	}
	refuse(row(last-1), last)
	refuse(row(last-5), last)
	for _, w := range wrong {
		for _, seq := range []int{1, 2, w.Next, w.Next + 1, api.MinInt, last - 1} {
			refuse(w, seq)
		}
	}
}

func TestP10_3_Ack(t *testing.T) {
	for k, x := range []struct {
		w         api.Recv
		ack, sack int
	}{
		{row(1), 0, 0}, {row(1, 2), 0, 1}, {row(3), 2, 0}, {row(1, 3), 0, 2}, {row(1, 8), 0, 64},
		{row(1, 2, 3, 4, 5, 6, 7, 8), 0, 127}, {row(100, 102, 107), 99, 2 + 64}, {row(last-3, last-1), last - 4, 2},
	} {
		if ack, sack := recv.Ack(x.w); ack != x.ack || sack != x.sack {
			t.Errorf("case %d: %d, %d", k, ack, sack)
		}
	}
	for _, w := range wrong {
		if ack, sack := recv.Ack(w); ack != 0 || sack != 0 {
			t.Errorf("Ack of %+v: %d, %d", w, ack, sack)
		}
	}
}

func TestP10_4_Memory(t *testing.T) {
	for _, seq := range []int{1, 2, 3, 4, 9, 50} {
		for _, next := range []int{1, 0} {
			w := row(next, 3, 5, 6)
			items, kept := probe.Roomy(w.Items, item(77))
			w.Items = items
			got, _ := recv.Take(w, item(seq))
			recv.Ack(w)
			recv.Right(w)
			recv.Same(w, w)
			if !kept() {
				t.Errorf("Take of %d changes what it is handed", seq)
			}
			if probe.Shares(got.Items, w.Items) {
				t.Errorf("Take of %d shares memory", seq)
			}
		}
	}
}

func TestP10_5_EachOnceInOrder(t *testing.T) {
	rnd := rand.New(rand.NewSource(16))
	for range 300 {
		start := 1
		if rnd.Intn(3) == 0 {
			start = last - 30
		}
		w, next := api.Recv{Next: start}, start
		ahead := map[int]bool{}
		for range 200 {
			seq := next + rnd.Intn(14) - 3
			i := item(seq)
			var told []api.Note
			w, told = recv.Take(w, i)
			if seq >= next && seq < next+8 && seq < last {
				ahead[seq] = true
			}
			var want []api.Note
			for ahead[next] {
				delete(ahead, next)
				want = append(want, note(next))
				next++
			}
			if !slices.Equal(told, want) || !recv.Right(w) {
				t.Fatalf("Take of %d: %v, not %v", seq, told, want)
			}
			if !recv.Same(w, row(next, slices.Sorted(maps.Keys(ahead))...)) {
				t.Fatalf("Take of %d: %+v", seq, w)
			}
		}
		if next < start+20 {
			t.Fatalf("came only to %d", next)
		}
	}
}
