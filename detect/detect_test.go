package detect_test

import (
	"math/rand"
	"slices"
	"testing"

	"nightjar/api"
	"nightjar/detect"
	"nightjar/probe"
)

const most, maxID = api.Most, api.MaxID

// row is beats of pairs: a Seq, and when it came.
func row(pairs ...int) []api.Beat {
	var l []api.Beat
	for i := 0; i+1 < len(pairs); i += 2 {
		l = append(l, api.Beat{Seq: pairs[i], At: pairs[i+1]})
	}
	return l
}

// many is n beats from the Seq 1 on, each four ticks behind the other.
func many(n int) []api.Beat {
	var l []api.Beat
	for seq := 1; seq <= n; seq++ {
		l = append(l, api.Beat{Seq: seq, At: 4 * seq})
	}
	return l
}

func TestP14_1_Start(t *testing.T) {
	for _, x := range [][2]int{{0, 0}, {100, 100}, {-1, 0}, {api.MinInt, 0}, {most, most}, {most + 1, most}, {api.MaxInt, most}} {
		if got := detect.Start(x[0]); !slices.Equal(got, row(0, x[1])) || !detect.Right(got) {
			t.Errorf("Start of %d: %v", x[0], got)
		}
	}
}

func TestP14_1_Right(t *testing.T) {
	for _, l := range [][]api.Beat{row(0, 0), row(maxID, most), row(0, 5, 1, 5), row(3, 5, 9, 6), many(7), many(8), row(maxID-1, 0, maxID, most)} {
		if !detect.Right(l) {
			t.Errorf("not right: %v", l)
		}
	}
	for _, l := range [][]api.Beat{nil, {}, many(9), row(-1, 0), row(0, -1), row(maxID+1, 0), row(0, most+1), row(1, 5, 1, 6), row(2, 5, 1, 6), row(1, 5, 2, 4), row(1, 5, maxID+1, 6), row(1, 5, 2, most+1), row(api.MaxInt, api.MaxInt, api.MinInt, api.MinInt)} {
		if detect.Right(l) {
			t.Errorf("right: %v", l)
		}
	}
}

func TestP14_2_Beat(t *testing.T) {
	for k, x := range []struct {
		l        []api.Beat
		seq, now int
		want     []api.Beat
		ok       bool
	}{
		{row(0, 100), 1, 104, row(0, 100, 1, 104), true},
		{row(0, 100), 5, 100, row(0, 100, 5, 100), true},
		{row(0, 100), 0, 104, row(0, 100), false},
		{row(3, 100), 3, 104, row(3, 100), false},
		{row(3, 100), 2, 104, row(3, 100), false},
		{row(3, 100), 4, 99, row(3, 100), false},
		{row(3, 100), maxID, most, row(3, 100, maxID, most), true},
		{row(3, 100), maxID + 1, 101, row(3, 100), false},
		{row(3, 100), 4, most + 1, row(3, 100), false},
		{row(3, 100), api.MinInt, 101, row(3, 100), false},
		{row(3, 100), 4, api.MinInt, row(3, 100), false},
		{row(maxID, 100), maxID, 101, row(maxID, 100), false},
		{many(7), 8, 32, many(8), true},
		{many(8), 9, 36, many(9)[1:], true},
		{many(8), 8, 36, many(8), false},
		{many(8), 9, 31, many(8), false},
	} {
		got, ok := detect.Beat(x.l, x.seq, x.now)
		if !slices.Equal(got, x.want) || ok != x.ok {
			t.Errorf("case %d: %v, %v", k, got, ok)
		}
	}
}

func TestP14_3_Deadline(t *testing.T) {
	for k, x := range []struct {
		l    []api.Beat
		want int
	}{
		{row(0, 100), 110}, {row(0, 0), 10}, {row(0, 100, 1, 104, 2, 112), 119}, {many(8), 42},
		{row(0, 0, 1, 100), 101}, {row(0, 0, 1, 20), 22}, {row(0, 0, 1, 22), 23}, {row(0, 0, 1, 23), 24},
		{row(0, 0, 1, 0), 12}, {row(0, 0, 10, 0), 30}, {row(0, 0, 15, 0), 40}, {row(0, 0, 16, 0), 40}, {row(0, 0, 14, 0), 38}, {row(0, 5, 1000, 5), 45},
		{row(0, 0, maxID, 0), 40}, {row(0, 0, maxID, most), most}, {row(0, most), most}, {row(0, most-1), most}, {row(0, most-10), most}, {row(0, most-11), most - 1},
		{row(0, most-2, 1, most-2), most - 1}, {row(0, most-3, 1, most-1), most},
	} {
		if got := detect.Deadline(x.l); got != x.want {
			t.Errorf("case %d: %d, not %d", k, got, x.want)
		}
	}
}

// deadline is what the chapter says, where no number comes near Most.
func deadline(l []api.Beat) int {
	end := l[len(l)-1]
	sum := 0
	for _, b := range l {
		sum += b.At + 4*(end.Seq-b.Seq)
	}
	return max(end.At+1, min(end.At+40, sum/len(l)+4+6))
}

func TestP14_3_ManyRows(t *testing.T) {
	rnd := rand.New(rand.NewSource(20))
	for range 20000 {
		seq, at := rnd.Intn(5), rnd.Intn(50)
		l := row(seq, at)
		for range rnd.Intn(8) {
			seq, at = seq+1+rnd.Intn(3), at+rnd.Intn(15)
			l = append(l, api.Beat{Seq: seq, At: at})
		}
		if got := detect.Deadline(l); got != deadline(l) {
			t.Fatalf("Deadline of %v: %d, not %d", l, got, deadline(l))
		}
	}
}

func TestP14_4_Memory(t *testing.T) {
	for _, x := range [][2]int{{9, 40}, {8, 40}, {9, 1}} {
		for _, n := range []int{8, 7} {
			l, kept := probe.Roomy(many(n), api.Beat{Seq: 99, At: 99})
			got, _ := detect.Beat(l, x[0], x[1])
			detect.Deadline(l)
			detect.Right(l)
			if !kept() {
				t.Error("what was handed in is changed")
			}
			if probe.Shares(got, l) {
				t.Error("memory is shared")
			}
		}
	}
	if probe.Shares(detect.Start(5), detect.Start(5)) {
		t.Error("Start answers old memory")
	}
}

func TestP14_5_AwaitedForTen(t *testing.T) {
	l := detect.Start(1000)
	for seq := 1; seq < 100; seq++ {
		l, _ = detect.Beat(l, seq, 1000+4*seq)
		if got := detect.Deadline(l); got != 1000+4*seq+10 {
			t.Fatalf("behind beat %d: %d", seq, got)
		}
	}
	rnd := rand.New(rand.NewSource(21))
	l = detect.Start(0)
	for range 5000 {
		end := l[len(l)-1]
		seq, at := end.Seq+rnd.Intn(60)-1, end.At+rnd.Intn(100)-3
		var ok bool
		if l, ok = detect.Beat(l, seq, at); ok != (seq > end.Seq && at >= end.At) || !detect.Right(l) {
			t.Fatalf("Beat of %d at %d is %v: %v", seq, at, ok, l)
		}
		if wait := detect.Deadline(l) - l[len(l)-1].At; wait < 1 || wait > 40 {
			t.Fatalf("waited for %d: %v", wait, l)
		}
	}
}
