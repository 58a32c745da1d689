package ratchet_test

import (
	"encoding/hex"
	"slices"
	"testing"

	"missive/api"
	"missive/ratchet"
	"missive/suite"
)

// numbers are such at which a row may stand, up to the greatest one.
var numbers = []uint16{0, 1, 2, 15, 16, 17, 255, 256, 257, 32768, 65518, 65519, 65533, 65534, 65535}

// keys are some that are alike but for an end, and drawn ones.
func keys() []api.Key {
	d := drawer(18)
	return []api.Key{{}, {1}, {31: 1}, {255}, d.key(), named(1), named(2)}
}

// first is a session as it is ahead of its first letter, with the keys by which it was begun.
func (a asker) first() api.Session {
	a.Helper()
	x := a.begin(run(0), run(100), run(150))
	x.First, x.Agree, x.Signer, x.Base, x.Once = true, run(10), run(20), run(30), 258
	return x
}

// pair are the two ends of a new session.
func (a asker) pair() (one, two api.Session) {
	a.Helper()
	one = a.first()
	return one, a.join(run(0), run(100), a.public(one.Mine))
}

// public is that of a secret, made in both tables.
func (a asker) public(secret api.Key) api.Key {
	a.Helper()
	k := a.s.Public(secret)
	if k != a.m.s.Public(secret) {
		a.Fatal("the two suites have unlike public keys")
	}
	return k
}

// What another program reckons, with the labels and the pieces written out.
func TestReckonedElsewhere(t *testing.T) {
	const (
		one   = "7b16606850ca10e40254d907d04cfc54c1795e8529116208a0869fb7c6d8290f"
		two   = "06182e2dc71c02f11c80eb2a669aec1720dffb9dc631b4c632699a4a15b3e8db"
		back  = "e4452a47fc5ada3b0c56517c677950e2faee0f6496d4da7a16309c4b22e0b125"
		again = "6e08a9cddb290b534e5b7a6b51ad7e781a6f79cee3ae8625a50ae5b25ad71336"
		zeros = "0020" + "0000000000000000000000000000000000000000000000000000000000000000"
		pa    = "100020000102030405060708090a0b0c0d0e0f101112131415161718191a1b1c1d1e1f002064f80a03fda673ba9ee483b5cd41420ae71ae4f79897b9ded1353a74da3151b30020969798999a9b9c9d9e9fa0a1a2a3a4a5a6a7a8a9aaabacadaeafb0b1b2b3b4b50001000020636b0d340c4d40cb939d077686cd49c6adda746112b41e76ab63b1c1e67211e60002000200020000002096bef4743ba8e3ed19d265e73e0d2c71136ab5b4b994afa882d1f82fd38a4b010001010020980fd01dcb6794ade2511aceb61358a44cfd7cf25d7b7e9c15818a60b7dc91e800020001000100" + zeros + zeros + zeros + "00020000"
		pb    = "110020000102030405060708090a0b0c0d0e0f101112131415161718191a1b1c1d1e1f002064f80a03fda673ba9ee483b5cd41420ae71ae4f79897b9ded1353a74da3151b30020aaabacadaeafb0b1b2b3b4b5b6b7b8b9babbbcbdbebfc0c1c2c3c4c5c6c7c8c90001010020980fd01dcb6794ade2511aceb61358a44cfd7cf25d7b7e9c15818a60b7dc91e80002000100020000002008264ae690b411d8e3ede40f87192585ea114a082744a776105aac05eab1052e0001010020636b0d340c4d40cb939d077686cd49c6adda746112b41e76ab63b1c1e67211e600020002000100" + zeros + zeros + zeros + "000200000049" + "03002008264ae690b411d8e3ede40f87192585ea114a082744a776105aac05eab1052e00020000002008cad5b6b360db0395c123952d0190a89c3d59efab0be3e618e8860865049123"
	)
	a := reckoner(t)
	x, y := a.pair()
	is := func(what string, got []byte, want string) {
		t.Helper()
		if hex.EncodeToString(got) != want {
			t.Errorf("%s: %x, want %s", what, got, want)
		}
	}
	oneHeader, oneBody := a.wrote(&x, api.Key{}, "one")
	twoHeader, twoBody := a.wrote(&x, api.Key{}, "two")
	is("one", oneBody, one)
	is("two", twoBody, two)
	a.reads(&y, twoHeader, twoBody, "two")
	backHeader, backBody := a.wrote(&y, run(170), "back")
	is("back", backBody, back)
	a.reads(&x, backHeader, backBody, "back")
	for _, c := range []struct {
		what string
		x    api.Session
		want string
	}{{"the first end", x, pa}, {"the other end", y, pb}} {
		b, ok := ratchet.Pack(c.x)
		is(c.what, b, c.want)
		if z, also := ratchet.Unpack(b); !ok || !also || !same(z, c.x) {
			t.Errorf("%s: %t, %t, %v", c.what, ok, also, z)
		}
	}
	againHeader, againBody := a.wrote(&x, run(190), "again")
	is("again", againBody, again)
	a.reads(&y, againHeader, againBody, "again")
	a.reads(&y, oneHeader, oneBody, "one")
}

// P18.1

func TestBegin(t *testing.T) {
	for _, a := range askers(t) {
		for _, id := range keys() {
			for _, k := range keys() {
				x := a.begin(id, k, api.Key{5})
				want := api.Session{Id: id, Root: x.Root, Mine: x.Mine, HasSend: true, Send: api.Chain{Key: x.Send.Key}}
				if !same(x, want) || x.Root == x.Send.Key || x.Root == k || x.Send.Key == k {
					t.Fatalf("Begin(%x, %x): %v", id, k, x)
				}
				a.begin(id, api.Key{5}, k)
			}
		}
	}
	a := termer(t)
	a.begin(api.Key{1}, api.Key{2}, api.Key{3})
	a.made(0, "01n")
}

func TestJoin(t *testing.T) {
	for _, a := range askers(t) {
		for _, id := range keys() {
			for _, k := range keys() {
				x, begun := a.join(id, k, api.Key{5}), a.begin(id, k, api.Key{6})
				want := api.Session{Id: id, Root: begun.Root, Theirs: api.Key{5}, HasRecv: true, Recv: begun.Send}
				if !same(x, want) {
					t.Fatalf("Join(%x, %x): %v, want %v", id, k, x, want)
				}
				a.join(id, api.Key{5}, k)
			}
		}
	}
	a := termer(t)
	a.join(api.Key{1}, api.Key{2}, api.Key{3})
	a.made(0, "01")
}

func TestBeginningsInAFullTable(t *testing.T) {
	for room := range 5 {
		a := termer(t)
		a.fill(room)
		a.begin(api.Key{1}, api.Key{2}, api.Key{3})
		a.join(api.Key{1}, api.Key{2}, api.Key{3})
		a.join(api.Key{1}, api.Key{4}, api.Key{3})
		a.begin(api.Key{1}, api.Key{4}, api.Key{5})
	}
}

// P18.2

func TestSealTooLong(t *testing.T) {
	for _, a := range askers(t) {
		x, y := a.pair()
		for _, n := range []int{0, 1, 1023, 1024} {
			_, h, body, e := a.seal(x, api.Key{}, make([]byte, n))
			a.is("Seal", e, api.OK)
			if len(body) != suite.Size(n) {
				t.Errorf("Seal of %d bytes: %d, want %d", n, len(body), suite.Size(n))
			}
			if _, plain, e := a.open(y, h, body); e != api.OK || len(plain) != n {
				t.Errorf("Open of %d bytes: %d, error %d", n, len(plain), e)
			}
		}
		was := a.count()
		full := x
		full.Send.N = 65535
		for _, n := range []int{1025, 1040, 4096, 5000, 70000} {
			// Whatever else is wrong comes behind it.
			for _, z := range []api.Session{x, y, {}, full, {HasRecv: true}} {
				_, _, _, e := a.seal(z, api.Key{1}, make([]byte, n))
				a.is("Seal of too much", e, api.ErrLong)
			}
		}
		if a.count() != was {
			t.Error("a Seal of too much makes terms")
		}
	}
}

func TestSealOfNoSession(t *testing.T) {
	for _, a := range askers(t) {
		x, y := a.pair()
		x.HasSend, y.HasRecv = false, false
		was := a.count()
		for _, z := range []api.Session{{}, x, y, {Send: api.Chain{Key: api.Key{1}, N: 65535}, Theirs: y.Theirs, First: true, Kept: kept(api.Key{1}, 0, 3)}} {
			_, _, _, e := a.seal(z, api.Key{1}, nil)
			a.is("Seal of no session", e, api.ErrArg)
			_, _, _, e = a.seal(z, api.Key{1}, make([]byte, 1024))
			a.is("Seal of no session", e, api.ErrArg)
		}
		if a.count() != was {
			t.Error("a Seal of no session makes terms")
		}
	}
}

// With a row to send nothing new is agreed on.
func TestSealGoesOn(t *testing.T) {
	for _, a := range askers(t) {
		for _, n := range numbers[:len(numbers)-1] {
			for _, prev := range []uint16{0, 1, 258, 65535} {
				x := a.first()
				x.Send.N, x.Prev, x.First = n, prev, prev == 0
				x.Theirs, x.HasRecv, x.Recv = api.Key{}, prev == 1, api.Chain{Key: api.Key{8}, N: 77}
				x.Kept = kept(api.Key{3}, 0, int(n%40))
				from := a.count()
				now, h, body, e := a.seal(x, api.Key{7}, []byte("text"))
				a.is("Seal", e, api.OK)
				a.made(from, map[bool]string{true: "pMNKl", false: "Kl"}[n == 0 && prev == 0])
				want := copied(x)
				want.Send = api.Chain{Key: now.Send.Key, N: n + 1}
				if !same(now, want) || now.Send.Key == x.Send.Key {
					t.Fatalf("Seal of %v: %v", x, now)
				}
				if h.N != n || h.Prev != prev || h.Ratchet != a.public(x.Mine) || h.Session != x.Id || len(body) != suite.Size(4) {
					t.Fatalf("Seal of %v: %v", x, h)
				}
			}
		}
	}
}

// As long as nobody has answered, letters say by which keys the session was begun; else they don't, though the session should know.
func TestFirstLetters(t *testing.T) {
	for _, a := range askers(t) {
		x, y := a.pair()
		for range 3 {
			h, body := a.wrote(&x, api.Key{}, "first")
			if !h.First || h.Agree != run(10) || h.Signer != run(20) || h.Base != run(30) || h.Id != 258 || !x.First {
				t.Fatalf("a first letter's header: %v", h)
			}
			a.reads(&y, h, body, "first")
		}
		x.First = false
		h, _ := a.wrote(&x, api.Key{}, "behind")
		if h != (api.Header{Session: x.Id, Ratchet: h.Ratchet, N: 3}) {
			t.Fatalf("another letter's header: %v", h)
		}
		// A session of any fields: who is written to may have First.
		y.First, y.Agree, y.Signer, y.Base, y.Once = true, run(40), run(50), run(60), 65535
		h, _ = a.wrote(&y, api.Key{9}, "first too")
		if !h.First || h.Agree != run(40) || h.Signer != run(50) || h.Base != run(60) || h.Id != 65535 || !y.First {
			t.Fatalf("a first letter's header: %v", h)
		}
	}
}

// Without a row to send one is begun, by a new ratchet secret.
func TestSealAnswers(t *testing.T) {
	for _, a := range askers(t) {
		for i, n := range numbers {
			_, x := a.pair()
			x.Send, x.Prev, x.Mine = api.Chain{Key: api.Key{4}, N: n}, 99, api.Key{5}
			x.Kept = kept(api.Key{3}, 0, i)
			from := a.count()
			now, h, _, e := a.seal(x, api.Key{byte(i), 7}, []byte("text"))
			a.is("Seal", e, api.OK)
			a.made(from, "nsRCpMNKl")
			want := copied(x)
			want.HasSend, want.Prev = true, n
			want.Root, want.Mine, want.Send = now.Root, now.Mine, api.Chain{Key: now.Send.Key, N: 1}
			if !same(now, want) || now.Root == x.Root || now.Mine == x.Mine || h.N != 0 || h.Prev != n || h.Ratchet != a.public(now.Mine) {
				t.Fatalf("Seal of %v: %v %v", x, now, h)
			}
			again, next, _, _ := a.seal(now, api.Key{8}, nil)
			if again.Mine != now.Mine || again.Root != now.Root || next.Ratchet != h.Ratchet || next.Prev != n || next.N != 1 {
				t.Fatalf("Seal once more: %v %v", again, next)
			}
		}
	}
}

// The draw alone makes the new ratchet secret; where there is a row already it does nothing.
func TestDraws(t *testing.T) {
	for _, a := range askers(t) {
		x, y := a.pair()
		seen := map[api.Key]bool{}
		for _, draw := range []api.Key{{8}, {16}, {31: 1}, run(0), run(1), named(1)} {
			now, h, _, _ := a.seal(y, draw, nil)
			if seen[now.Root] || seen[now.Send.Key] || seen[h.Ratchet] {
				t.Fatalf("by the draw %x a key that was there", draw)
			}
			seen[now.Root], seen[now.Send.Key], seen[h.Ratchet] = true, true, true
			other, h, _, _ := a.seal(x, draw, nil)
			if one, g, _, _ := a.seal(x, api.Key{99}, nil); !same(one, other) || g != h {
				t.Fatal("a draw changes what needs none")
			}
		}
	}
}

func TestSealWithoutAgreement(t *testing.T) {
	a := reckoner(t)
	_, x := a.pair()
	for _, theirs := range []api.Key{{}, {1}} {
		x.Theirs = theirs
		_, _, _, e := a.seal(x, api.Key{1}, []byte("text"))
		a.is("Seal to a key of low order", e, api.ErrKey)
		_, _, _, e = a.seal(x, api.Key{1}, make([]byte, 1025))
		a.is("Seal of too much to a key of low order", e, api.ErrLong)
		// With a row to send it isn't asked.
		x.HasSend = true
		_, _, _, e = a.seal(x, api.Key{1}, []byte("text"))
		a.is("Seal with a row", e, api.OK)
		x.HasSend = false
	}
	b := termer(t)
	_, x = b.pair()
	x.Theirs = api.Key{}
	from := b.count()
	_, _, _, e := b.seal(x, api.Key{1}, []byte("text"))
	b.is("Seal to what is no public key, by terms", e, api.OK)
	b.made(from, "noRCpMNKl")
}

func TestSealOfTheLast(t *testing.T) {
	for _, a := range askers(t) {
		x := a.first()
		x.Send.N = 65533
		for n := uint16(65533); n < 65535; n++ {
			h, _ := a.wrote(&x, api.Key{}, "text")
			if h.N != n {
				t.Fatalf("the letter %d has the number %d", n, h.N)
			}
		}
		_, _, _, e := a.seal(x, api.Key{}, []byte("text"))
		a.is("Seal behind the last one", e, api.ErrCount)
		// The own public key is made ahead of that.
		x.Mine = api.Key{77}
		from := a.count()
		_, _, _, e = a.seal(x, api.Key{}, nil)
		a.is("Seal behind the last one", e, api.ErrCount)
		a.made(from, "p")
	}
}

func TestSealInAFullTable(t *testing.T) {
	errors := func(l ...api.Errno) []api.Errno { return append(l, api.OK, api.OK) }
	for _, c := range []struct {
		answers bool
		want    []api.Errno
	}{
		{false, errors(4, 4, 4, 4, 4)},
		{true, errors(190, 190, 4, 4, 4, 4, 4, 4, 4)},
	} {
		for room, want := range c.want {
			a := termer(t)
			one, two := a.pair()
			one.Mine = api.Key{9}
			x := one
			if c.answers {
				x = two
			}
			a.fill(room)
			_, _, _, e := a.seal(x, api.Key{1}, []byte("text"))
			a.is("Seal with little room", e, want)
			_, _, _, e = a.seal(x, api.Key{1}, []byte("text"))
			a.is("Seal once more", e, want)
			_, _, _, e = a.seal(x, api.Key{1}, []byte("others"))
			if e == api.OK && room < len(c.want)-1 {
				t.Fatal("Seal of others without room")
			}
		}
	}
	// The count comes ahead of the room.
	a := termer(t)
	x := a.first()
	x.Send.N = 65535
	a.fill(0)
	_, _, _, e := a.seal(x, api.Key{}, nil)
	a.is("Seal behind the last one, without room", e, api.ErrCount)
}

// No two letters are sealed by one key, and nothing of one is like another's.
func TestBodiesAreUnlike(t *testing.T) {
	for _, a := range askers(t) {
		x, y := a.pair()
		seen := map[string]bool{}
		for i := range byte(20) {
			for _, end := range []*api.Session{&x, &y} {
				// The last three bits of a secret are nothing to the real suite.
				h, body := a.wrote(end, api.Key{8 * i, end.Mine[0]}, "the same text")
				if seen[string(body)] || seen[string(body[:32])] {
					t.Fatal("two letters' bodies are alike")
				}
				seen[string(body)], seen[string(body[:32])] = true, true
				if i%3 == 0 {
					a.reads(map[*api.Session]*api.Session{&x: &y, &y: &x}[end], h, body, "the same text")
				}
			}
		}
	}
}

// P18.2, P18.3: sessions and headers of any kind

// anySession has any fields; some hang together with the two ends of a true one.
func (d *drawer) anySession(a asker, publics []api.Key) (x api.Session) {
	one := func(l []api.Key) api.Key { return l[d.below(len(l))] }
	some := []uint16{0, 1, 2, 5, 17, 300, 65520, 65533, 65534, 65535}
	x = api.Session{
		Id: one(keys()), Root: one(keys()), Mine: one(keys()), HasSend: d.flip(), Send: api.Chain{Key: d.key(), N: some[d.below(len(some))]},
		Prev: uint16(d.below(65536)), Theirs: one(publics), HasRecv: d.flip(), Recv: api.Chain{Key: d.key(), N: some[d.below(len(some))]},
		First: d.flip(), Agree: one(keys()), Signer: one(keys()), Base: one(keys()), Once: uint16(d.below(65536)),
	}
	for range d.below(4) * d.below(7) {
		x.Kept = append(x.Kept, api.Kept{Ratchet: one(publics), N: x.Recv.N + uint16(d.below(40)-30), Key: d.key()})
	}
	return x
}

// anyHeader is one that may well be opened by the session.
func (d *drawer) anyHeader(x api.Session, publics []api.Key) api.Header {
	h := api.Header{Session: x.Id, First: d.flip(), Ratchet: publics[d.below(len(publics))], N: x.Recv.N + uint16(d.below(24)-4), Prev: x.Recv.N + uint16(d.below(24)-4)}
	if d.flip() {
		h.Ratchet = x.Theirs
	}
	if d.below(3) == 0 {
		h.N = uint16(d.below(20))
	}
	if d.below(4) == 0 {
		h.Prev = 0
	}
	if n := len(x.Kept); n > 0 && d.below(3) == 0 {
		k := x.Kept[d.below(n)]
		h.Ratchet, h.N = k.Ratchet, k.N
	}
	if h.First || d.below(9) == 0 {
		h.Agree, h.Signer, h.Base, h.Id = d.key(), d.key(), d.key(), uint16(d.below(3))
	}
	if d.below(9) == 0 {
		h.Session = d.key()
	}
	return h
}

func TestAnySessions(t *testing.T) {
	for _, a := range askers(t) {
		d := drawer(1)
		publics := []api.Key{a.public(api.Key{1}), a.public(api.Key{2}), a.public(d.key()), {}, {1}, d.key()}
		errors := map[api.Errno]int{}
		rounds := 1500
		if testing.Short() {
			rounds = 300
		}
		for i := range rounds {
			x := d.anySession(a, publics)
			if i%4 == 0 {
				now, _, _, e := a.seal(x, d.key(), d.text(d.below(40)))
				if e == api.OK {
					x = now
				}
			}
			h := d.anyHeader(x, publics)
			_, _, e := a.open(x, h, d.text(48))
			errors[e]++
			_, _, e = a.open(x, h, a.body(x, h, "any text"))
			errors[e]++
		}
		for _, e := range []api.Errno{0, 1, 3, 7, 141, 180, 181, 182, 190} {
			if errors[e] == 0 {
				t.Errorf("no letter was answered %d: %v", e, errors)
			}
		}
	}
}

func TestExamples(t *testing.T) {
	for _, a := range askers(t) {
		x, y := a.pair()
		var hs []api.Header
		var bodies [][]byte
		for _, text := range []string{"one", "two", "three"} {
			h, body := a.wrote(&x, api.Key{}, text)
			hs, bodies = append(hs, h), append(bodies, body)
		}
		a.reads(&y, hs[2], bodies[2], "three")
		if !slices.EqualFunc(y.Kept, []uint16{0, 1}, func(k api.Kept, n uint16) bool { return k.N == n && k.Ratchet == y.Theirs }) {
			t.Fatalf("behind the third one is kept %v", y.Kept)
		}
		a.reads(&y, hs[0], bodies[0], "one")
		a.refuses("the third once more", y, hs[2], bodies[2], api.ErrOld)
	}
}
