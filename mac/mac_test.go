package mac_test

import (
	"bytes"
	"crypto/hmac"
	"crypto/sha256"
	"encoding/hex"
	"math/rand"
	"testing"

	"nightjar/mac"
	"nightjar/probe"
)

func some(rnd *rand.Rand, n int) []byte {
	b := make([]byte, n)
	rnd.Read(b)
	return b
}

// known reckons by the library of the language.
func known(key []byte, text []byte) [32]byte {
	h := hmac.New(sha256.New, key)
	h.Write(text)
	return [32]byte(h.Sum(nil))
}

func TestP3_1_Of(t *testing.T) {
	got := mac.Of([]byte("Jefe"), []byte("what do ya want for nothing?"))
	if hex.EncodeToString(got[:]) != "5bdcc146bf60754e6a042426089575c75a003f089d2739839dec58b964ec3843" {
		t.Errorf("Of = %x", got)
	}
	if mac.Of(nil) != known(nil, nil) || mac.Of([]byte{1}) != known([]byte{1}, nil) {
		t.Error("wrong of no part")
	}
	rnd := rand.New(rand.NewSource(4))
	for _, size := range []int{0, 1, 16, 31, 32, 33, 63, 64, 65, 66, 127, 128, 129, 1000} {
		for range 20 {
			key, text := some(rnd, size), some(rnd, rnd.Intn(200))
			if mac.Of(key, text) != known(key, text) {
				t.Errorf("wrong by a key of %d bytes, of %d bytes", len(key), len(text))
			}
		}
	}
}

func TestP3_2_Equal(t *testing.T) {
	for _, x := range []struct {
		a, b string
		same bool
	}{
		{"", "", true}, {"a", "a", true}, {"ab", "ab", true}, {"a", "", false}, {"", "a", false},
		{"ab", "ac", false}, {"ab", "bb", false}, {"ab", "abc", false}, {"abc", "ab", false}, {"a\x00", "a", false},
		{"ab", "ba", false}, {"\x01\x02\x00", "\x02\x01\x00", false},
	} {
		if mac.Equal([]byte(x.a), []byte(x.b)) != x.same {
			t.Errorf("Equal(%q, %q) is not %v", x.a, x.b, x.same)
		}
	}
	if !mac.Equal(nil, []byte{}) || !mac.Equal([]byte{}, nil) {
		t.Error("a nil list and an empty one are not the same")
	}
	long := bytes.Repeat([]byte{5}, 32)
	for i := range long {
		other := bytes.Clone(long)
		other[i] ^= 128
		if mac.Equal(long, other) {
			t.Errorf("another byte at %d is not seen", i)
		}
	}
}

func TestP3_3_Untouched(t *testing.T) {
	for _, size := range []int{5, 64, 90} {
		key, keptKey := probe.Roomy(bytes.Repeat([]byte{3}, size), 7)
		a, keptA := probe.Roomy([]byte("who is "), 7)
		b, keptB := probe.Roomy([]byte("there"), 7)
		parts, last := [][]byte{a, b, []byte("junk")}, []byte("junk")
		first := mac.Of(key, parts[:2]...)
		mac.Equal(a, b)
		if !keptKey() || !keptA() || !keptB() || !bytes.Equal(parts[2], last) {
			t.Fatal("what was handed in was changed")
		}
		key[0]++
		a[0]++
		if mac.Of(bytes.Repeat([]byte{3}, size), []byte("who is there")) != first {
			t.Error("what was handed in was kept")
		}
	}
}

func TestP3_4_CutsAndZeros(t *testing.T) {
	rnd := rand.New(rand.NewSource(5))
	for range 300 {
		key, whole := some(rnd, rnd.Intn(60)), some(rnd, rnd.Intn(150))
		i := rnd.Intn(len(whole) + 1)
		j := i + rnd.Intn(len(whole)-i+1)
		want := mac.Of(key, whole)
		if mac.Of(key, whole[:i], nil, whole[i:j], whole[j:]) != want {
			t.Fatalf("cut at %d and %d", i, j)
		}
		longer := append(bytes.Clone(key), make([]byte, rnd.Intn(65-len(key)))...)
		if mac.Of(longer, whole) != want {
			t.Fatalf("a key of %d bytes with zeros up to %d", len(key), len(longer))
		}
	}
	if mac.Of(make([]byte, 65), nil) == mac.Of(make([]byte, 64), nil) {
		t.Error("a key of 65 bytes counts as one of 64")
	}
}
