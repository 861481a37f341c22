package cookie_test

import (
	"bytes"
	"crypto/hmac"
	"crypto/sha256"
	"testing"

	"nightjar/api"
	"nightjar/cookie"
	"nightjar/probe"
)

var secret = []byte("a secret")

// seven is n in seven bytes, the highest one first.
func seven(n int) []byte {
	var b []byte
	for i := 6; i >= 0; i-- {
		b = append(b, byte(n>>(8*i)))
	}
	return b
}

func known(key []byte, parts ...[]byte) []byte {
	h := hmac.New(sha256.New, key)
	h.Write(bytes.Join(parts, nil))
	return h.Sum(nil)
}

func TestP6_1_Mint(t *testing.T) {
	for _, key := range [][]byte{nil, secret, bytes.Repeat([]byte{9}, 100)} {
		for _, x := range [][3]int{{0, 0, 0}, {1, 2, 3}, {65535, api.MaxID, 5}, {7, 1 << 24, 1 << 40}, {-1, -2, -3}, {api.MinInt, api.MaxInt, api.MaxInt}} {
			epochKey := known(key, seven(x[2]))
			want := known(epochKey, seven(x[0]), seven(x[1]), seven(x[2]))[:16]
			if got := cookie.Mint(key, x[0], x[1], x[2]); !bytes.Equal(got[:], want) {
				t.Errorf("Mint of %v: %x, not %x", x, got, want)
			}
		}
	}
}

func TestP6_2_Check(t *testing.T) {
	c := cookie.Mint(secret, 3, 4, 5)
	other := c
	other[15] ^= 1
	first := c
	first[0] ^= 128
	for k, x := range []struct {
		addr, nonce, epoch, now int
		c                       [16]byte
		want                    api.Errno
	}{
		{3, 4, 5, 5, c, api.OK},
		{3, 4, 5, 6, c, api.OK},
		{3, 4, 5, 7, c, api.ErrOld},
		{3, 4, 5, 4, c, api.ErrOld},
		{3, 4, 5, api.MaxInt, c, api.ErrOld},
		{3, 4, 5, api.MinInt, c, api.ErrOld},
		{3, 4, 5, 6, other, api.ErrCookie},
		{3, 4, 5, 6, first, api.ErrCookie},
		{3, 4, 5, 7, other, api.ErrOld},
		{2, 4, 5, 5, c, api.ErrCookie},
		{3, 5, 5, 5, c, api.ErrCookie},
		{3, 4, 6, 6, c, api.ErrCookie},
		{3, 4, 4, 5, c, api.ErrCookie},
		{3, 4, 5, 5, [16]byte{}, api.ErrCookie},
		{3, 4, 0, 0, cookie.Mint(secret, 3, 4, 0), api.OK},
		{3, 4, 0, 1, cookie.Mint(secret, 3, 4, 0), api.OK},
		{3, 4, -1, -1, cookie.Mint(secret, 3, 4, -1), api.ErrOld},
		{3, 4, -1, 0, cookie.Mint(secret, 3, 4, -1), api.ErrOld},
		{3, 4, api.MinInt, api.MinInt, cookie.Mint(secret, 3, 4, api.MinInt), api.ErrOld},
		{3, 4, api.MaxInt, api.MaxInt, cookie.Mint(secret, 3, 4, api.MaxInt), api.OK},
		{3, 4, api.MaxInt, api.MinInt, cookie.Mint(secret, 3, 4, api.MaxInt), api.ErrOld},
		{3, 4, api.MaxInt - 1, api.MaxInt, cookie.Mint(secret, 3, 4, api.MaxInt-1), api.OK},
	} {
		if got := cookie.Check(secret, x.addr, x.nonce, x.epoch, x.now, x.c); got != x.want {
			t.Errorf("case %d: %d, not %d", k, got, x.want)
		}
	}
	if cookie.Check([]byte("another"), 3, 4, 5, 5, c) != api.ErrCookie {
		t.Error("good by another secret")
	}
}

func TestP6_3_Untouched(t *testing.T) {
	key, kept := probe.Roomy(secret, 7)
	c := cookie.Mint(key, 1, 2, 3)
	cookie.Check(key, 1, 2, 3, 3, c)
	if !kept() {
		t.Fatal("the secret was changed")
	}
	key[0]++
	if cookie.Check(key, 1, 2, 3, 3, c) != api.ErrCookie || cookie.Check(secret, 1, 2, 3, 3, c) != api.OK {
		t.Error("the secret was kept")
	}
}

func TestP6_4_Good(t *testing.T) {
	for _, epoch := range []int{0, 1, 9, 1 << 34} {
		c := cookie.Mint(secret, 8, 9, epoch)
		for now := epoch - 3; now < epoch+4; now++ {
			good := cookie.Check(secret, 8, 9, epoch, now, c) == api.OK
			if good != (now == epoch || now == epoch+1) {
				t.Errorf("of epoch %d, at %d: good is %v", epoch, now, good)
			}
		}
		for addr := range 20 {
			for nonce := range 20 {
				good := cookie.Check(secret, addr, nonce, epoch, epoch, c) == api.OK
				if good != (addr == 8 && nonce == 9) {
					t.Errorf("from %d, of nonce %d: good is %v", addr, nonce, good)
				}
			}
		}
	}
}
