package field_test

import (
	"bytes"
	"math/big"
	"math/rand"
	"testing"

	"nightjar/api"
	"nightjar/field"
	"nightjar/probe"
)

var numbers = []int{api.MinInt, api.MinInt + 1, -1 << 56, -1<<56 - 1, -65537, -256, -255, -2, -1, 0, 1, 127, 128, 255, 256, 257, 258, 65535, 65536, 1<<32 - 1, 1 << 32, 1<<56 - 1, 1 << 56, 1<<56 + 5, api.MaxInt}

// remainder is n by 256 to the power of size, from 0 on.
func remainder(n, size int) *big.Int {
	power := new(big.Int).Lsh(big.NewInt(1), uint(8*size))
	return new(big.Int).Mod(big.NewInt(int64(n)), power)
}

func nearest(size int) int {
	return min(max(size, 1), 7)
}

func TestP4_1_Put(t *testing.T) {
	if got := field.Put(nil, 258, 3); !bytes.Equal(got, []byte{0, 1, 2}) {
		t.Errorf("Put of 258 in 3 bytes: %v", got)
	}
	if got := field.Put([]byte{9, 8}, -1, 2); !bytes.Equal(got, []byte{9, 8, 255, 255}) {
		t.Errorf("Put of -1 in 2 bytes: %v", got)
	}
	for _, n := range numbers {
		for _, size := range []int{api.MinInt, -1, 0, 1, 2, 3, 4, 5, 6, 7, 8, 9, 100, api.MaxInt} {
			want := remainder(n, nearest(size)).FillBytes(make([]byte, nearest(size)))
			if got := field.Put(nil, n, size); !bytes.Equal(got, want) {
				t.Errorf("Put of %d in %d bytes: %v, not %v", n, size, got, want)
			}
			if got := field.Put([]byte{5}, n, size); !bytes.Equal(got, append([]byte{5}, want...)) {
				t.Errorf("Put behind one byte of %d in %d bytes: %v", n, size, got)
			}
		}
	}
}

func TestP4_2_NumAndTake(t *testing.T) {
	r := field.Open([]byte{0, 1, 2, 3, 4, 5})
	if n := r.Num(3); n != 258 || r.Left() != 3 {
		t.Fatalf("Num is %d, left %d", n, r.Left())
	}
	if b := r.Take(2); !bytes.Equal(b, []byte{3, 4}) || r.Left() != 1 {
		t.Fatalf("Take is %v, left %d", b, r.Left())
	}
	if b := r.Take(0); len(b) != 0 || r.Left() != 1 {
		t.Fatalf("Take of none is %v, left %d", b, r.Left())
	}
	if n := r.Num(-5); n != 5 || !r.Done() {
		t.Fatalf("Num of a size below 1 is %d", n)
	}
	if n := field.Open(bytes.Repeat([]byte{255}, 9)).Num(8); n != 1<<56-1 {
		t.Fatalf("Num of a size above 7 is %d", n)
	}
}

func TestP4_2_Failed(t *testing.T) {
	fails := map[string]func(r *field.Reader) bool{
		"Num of too many":    func(r *field.Reader) bool { return r.Num(4) == 0 },
		"Num above 7":        func(r *field.Reader) bool { return r.Num(api.MaxInt) == 0 },
		"Take of too many":   func(r *field.Reader) bool { return len(r.Take(4)) == 0 },
		"Take of most":       func(r *field.Reader) bool { return len(r.Take(api.MaxInt)) == 0 },
		"Take of minus one":  func(r *field.Reader) bool { return len(r.Take(-1)) == 0 },
		"Take of least":      func(r *field.Reader) bool { return len(r.Take(api.MinInt)) == 0 },
		"Num behind a Take":  func(r *field.Reader) bool { return len(r.Take(3)) == 3 && r.Num(1) == 0 },
		"Take behind a Take": func(r *field.Reader) bool { return len(r.Take(3)) == 3 && len(r.Take(1)) == 0 },
	}
	for name, fail := range fails {
		r := field.Open([]byte{1, 2, 3})
		if !fail(r) {
			t.Errorf("%s: answers something", name)
		}
		if r.Left() != 0 || r.Done() {
			t.Errorf("%s: has not failed", name)
		}
		if r.Num(1) != 0 || len(r.Take(1)) != 0 || len(r.Take(0)) != 0 || r.Left() != 0 || r.Done() {
			t.Errorf("%s: does not stay failed", name)
		}
	}
}

func TestP4_3_LeftAndDone(t *testing.T) {
	for _, b := range [][]byte{nil, {}} {
		if r := field.Open(b); r.Left() != 0 || !r.Done() || len(r.Take(0)) != 0 || !r.Done() {
			t.Error("a reader of nothing is not done")
		}
	}
	r := field.Open([]byte{1, 2})
	for i := 2; i > 0; i-- {
		if r.Left() != i || r.Done() {
			t.Errorf("left %d, done %v, where %d are left", r.Left(), r.Done(), i)
		}
		r.Num(1)
	}
	if r.Left() != 0 || !r.Done() {
		t.Error("not done behind all")
	}
	if r.Take(1); r.Done() {
		t.Error("done, and failed")
	}
}

func TestP4_4_Memory(t *testing.T) {
	b, kept := probe.Roomy([]byte{1, 2, 3, 4, 5}, 7)
	laid := field.Put(b, 1, 3)
	if !kept() || probe.Shares(laid, b) {
		t.Error("Put changes or shares what it was handed")
	}
	r := field.Open(b)
	one, two := r.Take(2), r.Take(2)
	if probe.Shares(one, b) || probe.Shares(one, two) {
		t.Error("Take shares memory")
	}
	_ = append(one, 99)
	one[0], two[0], b[4] = 50, 50, 50
	if n := r.Num(1); n != 5 {
		t.Errorf("what was handed in was kept: %d", n)
	}
}

func TestP4_5_ReadAsLaid(t *testing.T) {
	rnd := rand.New(rand.NewSource(6))
	for range 500 {
		var b []byte
		var sizes, laid []int
		for range rnd.Intn(10) {
			size := 1 + rnd.Intn(7)
			n := rnd.Intn(1 << (8 * size))
			b = field.Put(b, n, size)
			sizes, laid = append(sizes, size), append(laid, n)
		}
		r := field.Open(b)
		for i, n := range laid {
			if got := r.Num(sizes[i]); got != n {
				t.Fatalf("%d in %d bytes is read as %d", n, sizes[i], got)
			}
		}
		if !r.Done() {
			t.Fatal("not done")
		}
	}
	for _, n := range numbers {
		if got := field.Open(field.Put(nil, n, 7)).Num(7); big.NewInt(int64(got)).Cmp(remainder(n, 7)) != 0 {
			t.Errorf("%d is read as %d", n, got)
		}
	}
}
