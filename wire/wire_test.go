package wire_test

import (
	"bytes"
	"math/rand"
	"reflect"
	"testing"

	"nightjar/api"
	"nightjar/probe"
	"nightjar/wire"
)

// piece is a thing that a packet holds, as the chapter's table says it; a row of bytes has no most.
type piece struct {
	name              string
	size, least, most int
}

var (
	session = piece{"Session", 4, 1, 1 << 30}
	seq     = piece{"Seq", 4, 1, 1 << 30}
	nonce   = piece{"Nonce", 4, 0, 1 << 30}
	epoch   = piece{"Epoch", 4, 0, 1 << 30}
	version = piece{"Version", 4, 0, 1 << 30}
	ack     = piece{"Ack", 4, 0, 1 << 30}
	sack    = piece{"Sack", 1, 0, 255}
	user    = piece{"User", 1, 1, 16}
	op      = piece{"Op", 1, 0, 15}
	count   = piece{"Count", 1, 0, 4}
	secret  = piece{"Secret", 16, 0, 0}
	tag     = piece{"Tag", 8, 0, 0}
)

// layout is what each kind holds.
var layout = map[int][]piece{
	1:  {nonce},
	2:  {nonce, epoch, secret},
	3:  {user, nonce, epoch, secret},
	4:  {session, nonce, secret},
	5:  {session, seq, tag},
	6:  {session, seq, {"Status", 1, 1, 3}, tag},
	7:  {session, seq, {"Op", 1, 1, 7}, user, tag},
	8:  {session, seq, {"User", 1, 0, 16}, version, {"Status", 1, 0, 3}, count, tag},
	9:  {session, ack, sack, tag},
	10: {session, seq, tag},
	11: {session, seq, op, tag},
	12: {nonce, op},
}

var numbers = []string{"Session", "Seq", "User", "Op", "Status", "Count", "Version", "Ack", "Sack", "Nonce", "Epoch"}

func set(p *api.Packet, name string, n int) {
	reflect.ValueOf(p).Elem().FieldByName(name).SetInt(int64(n))
}

func get(p api.Packet, name string) int {
	return int(reflect.ValueOf(p).FieldByName(name).Int())
}

func isRow(x piece) bool {
	return x.most == 0
}

// some is a right packet of that kind with numbers that differ.
func some(rnd *rand.Rand, kind int) api.Packet {
	p := api.Packet{Kind: kind}
	for _, x := range layout[kind] {
		switch {
		case x.name == "Secret":
			rnd.Read(p.Secret[:])
		case x.name == "Tag":
			rnd.Read(p.Tag[:])
		default:
			set(&p, x.name, x.least+rnd.Intn(x.most-x.least+1))
		}
	}
	if kind == api.KindNotify && p.User == 0 {
		p.User = 1
	}
	return p
}

// laid is the bytes of p, by the chapter's table.
func laid(p api.Packet) []byte {
	b := []byte{byte(p.Kind)}
	for _, x := range layout[p.Kind] {
		switch {
		case x.name == "Secret":
			b = append(b, p.Secret[:]...)
		case x.name == "Tag":
			b = append(b, p.Tag[:]...)
		default:
			for i := x.size - 1; i >= 0; i-- {
				b = append(b, byte(get(p, x.name)>>(8*i)))
			}
		}
	}
	return b
}

func checkRight(t *testing.T, p api.Packet) {
	t.Helper()
	if !wire.Right(p) {
		t.Errorf("not right: %+v", p)
	}
	b, err := wire.Encode(p)
	if err != api.OK || !bytes.Equal(b, laid(p)) {
		t.Errorf("Encode of %+v: %v, %v", p, b, err)
	}
	if q, err := wire.Decode(laid(p)); err != api.OK || q != p {
		t.Errorf("Decode of %v: %+v, %v", laid(p), q, err)
	}
}

func checkWrong(t *testing.T, p api.Packet) {
	t.Helper()
	if wire.Right(p) {
		t.Errorf("right: %+v", p)
	}
	if b, err := wire.Encode(p); len(b) != 0 || err != api.ErrArg {
		t.Errorf("Encode of %+v: %v, %v", p, b, err)
	}
}

func checkForm(t *testing.T, b []byte) {
	t.Helper()
	if p, err := wire.Decode(b); p != (api.Packet{}) || err != api.ErrForm {
		t.Errorf("Decode of %v: %+v, %v", b, p, err)
	}
}

func TestP5_1_Example(t *testing.T) {
	b, err := wire.Encode(api.Packet{Kind: api.KindHello, Nonce: 258})
	if err != api.OK || !bytes.Equal(b, []byte{1, 0, 0, 1, 2}) {
		t.Errorf("%v, %v", b, err)
	}
}

func TestP5_1_Ranges(t *testing.T) {
	rnd := rand.New(rand.NewSource(7))
	for kind := 1; kind <= 12; kind++ {
		for range 30 {
			checkRight(t, some(rnd, kind))
		}
		for _, x := range layout[kind] {
			if isRow(x) {
				continue
			}
			for _, n := range []int{x.least, x.least + 1, x.most - 1, x.most} {
				p := some(rnd, kind)
				if set(&p, x.name, n); kind != api.KindNotify || p.User != 0 {
					checkRight(t, p)
				}
			}
			for _, n := range []int{api.MinInt, x.least - 1, x.most + 1, x.least + 1<<32, api.MaxInt} {
				p := some(rnd, kind)
				set(&p, x.name, n)
				checkWrong(t, p)
			}
		}
	}
}

func TestP5_1_NothingElse(t *testing.T) {
	rnd := rand.New(rand.NewSource(8))
	for kind := 1; kind <= 12; kind++ {
		holds := map[string]bool{}
		for _, x := range layout[kind] {
			holds[x.name] = true
		}
		for _, name := range numbers {
			for _, n := range []int{1, -1} {
				if p := some(rnd, kind); !holds[name] {
					set(&p, name, n)
					checkWrong(t, p)
				}
			}
		}
		if p := some(rnd, kind); !holds["Secret"] {
			p.Secret[15] = 1
			checkWrong(t, p)
		}
		if p := some(rnd, kind); !holds["Tag"] {
			p.Tag[7] = 1
			checkWrong(t, p)
		}
	}
	for _, kind := range []int{api.MinInt, -1, 0, 13, 14, 256, 257, 261, api.MaxInt} {
		checkWrong(t, api.Packet{Kind: kind})
		checkWrong(t, api.Packet{Kind: kind, Nonce: 1})
		checkWrong(t, api.Packet{Kind: kind, Session: 1, Seq: 1})
	}
}

func TestP5_1_OfNobody(t *testing.T) {
	p := api.Packet{Kind: api.KindNotify, Session: 1, Seq: 1, Tag: [8]byte{4}}
	checkRight(t, p)
	for _, name := range []string{"Version", "Status", "Count"} {
		q := p
		set(&q, name, 1)
		checkWrong(t, q)
		checkForm(t, laid(q))
		q.User = 1
		checkRight(t, q)
	}
}

func TestP5_2_DecodeForm(t *testing.T) {
	rnd := rand.New(rand.NewSource(9))
	for _, b := range [][]byte{nil, {}, {0}, {13}, {255}, {1}, {1, 0, 0, 0}, {1, 0, 0, 0, 0, 0}, make([]byte, 300)} {
		checkForm(t, b)
	}
	for kind := 1; kind <= 12; kind++ {
		b := laid(some(rnd, kind))
		for n := range b {
			checkForm(t, b[:n])
		}
		checkForm(t, append(bytes.Clone(b), 0))
		checkForm(t, append(bytes.Clone(b), b...))
		for _, x := range layout[kind] {
			if isRow(x) {
				continue
			}
			for _, n := range []int{x.least - 1, x.most + 1, 1<<(8*x.size) - 1} {
				p := some(rnd, kind)
				if set(&p, x.name, n); n >= 0 && n < 1<<(8*x.size) && (n < x.least || n > x.most) {
					checkForm(t, laid(p))
				}
			}
		}
	}
}

func TestP5_3_Tagged(t *testing.T) {
	for kind := -2; kind <= 300; kind++ {
		want := false
		for _, x := range layout[kind] {
			want = want || x.name == "Tag"
		}
		if wire.Tagged(kind) != want {
			t.Errorf("Tagged(%d) is not %v", kind, want)
		}
	}
	if wire.Tagged(api.MaxInt) || wire.Tagged(api.MinInt) {
		t.Error("Tagged of no kind")
	}
}

func TestP5_4_Memory(t *testing.T) {
	rnd := rand.New(rand.NewSource(10))
	for kind := 1; kind <= 12; kind++ {
		p := some(rnd, kind)
		b, kept := probe.Roomy(laid(p), 7)
		q, _ := wire.Decode(b)
		b[len(b)-1]++
		if b[len(b)-1]--; !kept() || q != p {
			t.Errorf("kind %d: Decode changes or keeps what it is handed", kind)
		}
		one, _ := wire.Encode(p)
		two, _ := wire.Encode(p)
		if probe.Shares(one, two) {
			t.Errorf("kind %d: Encode answers old memory", kind)
		}
	}
}

func TestP5_5_EachOthers(t *testing.T) {
	rnd := rand.New(rand.NewSource(11))
	found := 0
	for range 20000 {
		kind := 1 + rnd.Intn(12)
		b := laid(some(rnd, kind))
		for range 1 + rnd.Intn(3) {
			b[rnd.Intn(len(b))] = byte(rnd.Intn(20))
		}
		p, err := wire.Decode(b)
		if err != api.OK {
			if p != (api.Packet{}) || err != api.ErrForm {
				t.Fatalf("%+v, %v", p, err)
			}
			continue
		}
		found++
		again, err := wire.Encode(p)
		if err != api.OK || !bytes.Equal(again, b) {
			t.Fatalf("%v becomes %+v, and that %v", b, p, again)
		}
	}
	if found < 100 {
		t.Errorf("only %d of them were packets", found)
	}
}
