package tag_test

import (
	"crypto/hmac"
	"crypto/sha256"
	"testing"

	"nightjar/api"
	"nightjar/probe"
	"nightjar/tag"
	"nightjar/wire"
)

var key = [16]byte{1, 2, 3, 4, 5, 6, 7, 8, 9, 10, 11, 12, 13, 14, 15, 16}

// tagged is one right packet of each kind that holds a Tag.
var tagged = []api.Packet{
	{Kind: api.KindBeat, Session: 1, Seq: 2},
	{Kind: api.KindStatus, Session: 1, Seq: 2, Status: 2},
	{Kind: api.KindRoster, Session: 1, Seq: 2, Op: 2, User: 2},
	{Kind: api.KindNotify, Session: 1, Seq: 2, User: 2, Version: 2, Status: 2, Count: 2},
	{Kind: api.KindAck, Session: 1, Ack: 2, Sack: 2},
	{Kind: api.KindBye, Session: 1, Seq: 2},
	{Kind: api.KindReply, Session: 1, Seq: 2, Op: 2},
}

// plain is one right packet of each kind that holds none.
var plain = []api.Packet{
	{Kind: api.KindHello, Nonce: 1},
	{Kind: api.KindCookie, Nonce: 1, Epoch: 1},
	{Kind: api.KindConnect, User: 1, Nonce: 1, Epoch: 1},
	{Kind: api.KindAccept, Session: 1, Nonce: 1},
	{Kind: api.KindError, Nonce: 1, Op: 1},
}

// seven is n in seven bytes, the highest one first.
func seven(n int) []byte {
	var b []byte
	for i := 6; i >= 0; i-- {
		b = append(b, byte(n>>(8*i)))
	}
	return b
}

func known(key []byte, text []byte) []byte {
	h := hmac.New(sha256.New, key)
	h.Write(text)
	return h.Sum(nil)
}

func TestP7_1_Key(t *testing.T) {
	for _, secret := range []string{"", "a secret"} {
		for _, x := range [][2]int{{0, 0}, {1, 2}, {2, 1}, {api.MaxID, api.MaxID}, {-1, api.MinInt}, {api.MaxInt, 256}} {
			want := [16]byte(known([]byte(secret), append(seven(x[0]), seven(x[1])...))[:16])
			if got := tag.Key([]byte(secret), x[0], x[1]); got != want {
				t.Errorf("Key of %v: %x, not %x", x, got, want)
			}
		}
	}
}

func TestP7_2_Sign(t *testing.T) {
	for _, p := range tagged {
		b, _ := wire.Encode(p)
		want := p
		want.Tag = [8]byte(known(key[:], b)[:8])
		if got, ok := tag.Sign(key, p); got != want || !ok {
			t.Errorf("Sign of %+v: %+v, %v", p, got, ok)
		}
		p.Tag = [8]byte{5, 5, 5}
		if got, ok := tag.Sign(key, p); got != want || !ok {
			t.Errorf("Sign of %+v: %+v, %v", p, got, ok)
		}
	}
	wrong := append([]api.Packet{{}, {Kind: 13}, {Kind: -1}, {Kind: api.KindBeat}, {Kind: api.KindBeat, Session: 1, Seq: 2, User: 1}, {Kind: api.KindStatus, Session: 1, Seq: 1, Status: 4}, {Kind: api.KindHello, Tag: [8]byte{1}}}, plain...)
	for _, p := range wrong {
		if got, ok := tag.Sign(key, p); got != (api.Packet{}) || ok {
			t.Errorf("Sign of %+v: %+v, %v", p, got, ok)
		}
	}
}

func TestP7_3_Good(t *testing.T) {
	for _, p := range tagged {
		signed, _ := tag.Sign(key, p)
		if !tag.Good(key, signed) {
			t.Errorf("signed, and not good: %+v", signed)
		}
		if tag.Good(key, p) {
			t.Errorf("not signed, and good: %+v", p)
		}
		for i := range signed.Tag {
			other := signed
			if other.Tag[i] ^= 1 << i; tag.Good(key, other) {
				t.Errorf("good with another tag: %+v", other)
			}
		}
		for i := range key {
			other := key
			if other[i] ^= 1; tag.Good(other, signed) {
				t.Errorf("good by another key: %+v", signed)
			}
		}
	}
	for _, p := range append([]api.Packet{{}, {Kind: 13}, {Kind: api.KindBeat}}, plain...) {
		if tag.Good(key, p) {
			t.Errorf("good: %+v", p)
		}
	}
}

func TestP7_4_Untouched(t *testing.T) {
	secret, kept := probe.Roomy([]byte("a secret"), 7)
	first := tag.Key(secret, 1, 2)
	if !kept() {
		t.Fatal("the secret was changed")
	}
	secret[0]++
	if tag.Key([]byte("a secret"), 1, 2) != first || tag.Key(secret, 1, 2) == first {
		t.Error("the secret was kept")
	}
}

func TestP7_5_OneOther(t *testing.T) {
	change := []func(p *api.Packet){
		func(p *api.Packet) { p.Session++ }, func(p *api.Packet) { p.Seq++ }, func(p *api.Packet) { p.User++ },
		func(p *api.Packet) { p.Op++ }, func(p *api.Packet) { p.Status++ }, func(p *api.Packet) { p.Count++ },
		func(p *api.Packet) { p.Version++ }, func(p *api.Packet) { p.Ack++ }, func(p *api.Packet) { p.Sack++ },
		func(p *api.Packet) { p.Nonce++ }, func(p *api.Packet) { p.Epoch++ }, func(p *api.Packet) { p.Secret[3]++ },
		func(p *api.Packet) { p.Tag[3]++ }, func(p *api.Packet) { p.Kind++ }, func(p *api.Packet) { p.Kind-- },
		func(p *api.Packet) { p.Kind = api.KindBeat + api.KindBye - p.Kind },
	}
	for _, p := range tagged {
		signed, _ := tag.Sign(key, p)
		for k, one := range change {
			other := signed
			one(&other)
			again, ok := tag.Sign(key, other)
			if tag.Good(key, other) != (ok && again == other) {
				t.Errorf("change %d: Good is %v of %+v", k, !ok, other)
			}
			if other != signed && tag.Good(key, other) {
				t.Errorf("change %d: good: %+v", k, other)
			}
		}
	}
}
