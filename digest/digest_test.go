package digest_test

import (
	"bytes"
	"crypto/sha256"
	"encoding/hex"
	"math/rand"
	"testing"

	"nightjar/digest"
	"nightjar/probe"
)

func some(rnd *rand.Rand, n int) []byte {
	b := make([]byte, n)
	rnd.Read(b)
	return b
}

func TestP2_1_Sum(t *testing.T) {
	for text, want := range map[string]string{
		"":    "e3b0c44298fc1c149afbf4c8996fb92427ae41e4649b934ca495991b7852b855",
		"abc": "ba7816bf8f01cfea414140de5dae2223b00361a396177a9cb410ff61f20015ad",
		"abcdbcdecdefdefgefghfghighijhijkijkljklmklmnlmnomnopnopq": "248d6a61d20638b8e5c026930c3e6039a33ce45964ff2167f6ecedd419db06c1",
	} {
		got := digest.Sum([]byte(text))
		if hex.EncodeToString(got[:]) != want {
			t.Errorf("Sum(%q) = %x", text, got)
		}
	}
	if digest.Sum() != sha256.Sum256(nil) {
		t.Error("Sum of no part is not that of no byte")
	}
}

func TestP2_1_EachLength(t *testing.T) {
	rnd := rand.New(rand.NewSource(2))
	for n := range 300 {
		if b := some(rnd, n); digest.Sum(b) != sha256.Sum256(b) {
			t.Errorf("wrong at %d bytes", n)
		}
	}
	for _, n := range []int{4095, 65536, 1 << 21} {
		if b := some(rnd, n); digest.Sum(b) != sha256.Sum256(b) {
			t.Errorf("wrong at %d bytes", n)
		}
	}
	for _, x := range []byte{0, 127, 128, 255} {
		for n := range 130 {
			if b := bytes.Repeat([]byte{x}, n); digest.Sum(b) != sha256.Sum256(b) {
				t.Errorf("wrong at %d bytes %d", n, x)
			}
		}
	}
}

func TestP2_2_Untouched(t *testing.T) {
	a, keptA := probe.Roomy([]byte("who is "), 7)
	b, keptB := probe.Roomy(bytes.Repeat([]byte("there"), 30), 7)
	first := digest.Sum(a, b)
	if !keptA() || !keptB() {
		t.Fatal("what was handed in was changed")
	}
	a[0]++
	if digest.Sum([]byte("who is "), b) != first {
		t.Error("what was handed in was kept")
	}
}

func TestP2_3_Cuts(t *testing.T) {
	rnd := rand.New(rand.NewSource(3))
	for range 500 {
		whole := some(rnd, rnd.Intn(260))
		var parts [][]byte
		rest := whole
		for len(rest) > 0 {
			n := rnd.Intn(len(rest) + 1)
			parts = append(parts, rest[:n])
			rest = rest[n:]
		}
		parts = append(parts, nil)
		if digest.Sum(parts...) != digest.Sum(whole) {
			t.Fatalf("%d bytes in %d parts", len(whole), len(parts))
		}
	}
}
