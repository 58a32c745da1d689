package account_test

import (
	"slices"
	"testing"

	"missive/account"
	"missive/api"
)

// low are public keys with which nobody agrees, in the real suite.
var low = []api.Key{{}, {1}}

// P19.3

func TestBegin(t *testing.T) {
	for _, a := range askers(t) {
		x, y := a.device(1, 3), a.device(2, 0)
		agree, signer := a.public(y)
		for i, b := range a.bundles(x, 5) {
			e, draw := run(byte(i)), run(byte(100+i))
			z, h := a.begins(y, b, e, draw)
			want := api.Session{Id: z.Id, Root: z.Root, HasSend: true, Send: api.Chain{Key: z.Send.Key}, Mine: a.s.Fresh(draw), First: true}
			want.Agree, want.Signer, want.Base, want.Once = agree, signer, a.s.Public(a.s.Fresh(e)), uint16(i)
			if !alike(z, want) {
				t.Fatalf("Begin by the bundle %d: %v, want %v", i, z, want)
			}
			if !h.First || h.Session != z.Id || h.Agree != agree || h.Signer != signer || h.Base != want.Base || h.Id != uint16(i) || h.N != 0 {
				t.Fatalf("the header of the first letter: %+v", h)
			}
		}
	}
}

// What the session hangs on: each of these another, and it is another one; the draw alone leaves its keys.
func TestBeginHangsOn(t *testing.T) {
	for _, a := range askers(t) {
		x, y := a.device(1, 1), a.device(2, 0)
		b := a.bundles(x, 5)[1]
		base, _ := a.begins(y, b, run(1), run(2))
		again := func(what string, y api.Account, b api.Bundle, e api.Key, id, root bool) {
			t.Helper()
			z, _ := a.begins(y, b, e, run(2))
			if (z.Id != base.Id) != id || (z.Root != base.Root) != root || (z.Send.Key != base.Send.Key) != root {
				t.Fatalf("%s: %v", what, z)
			}
		}
		again("the same", y, b, run(1), false, false)
		again("another fresh secret", y, b, run(3), true, true)
		other := y
		other.Agree = a.device(3, 0).Agree
		again("another secret that agrees", other, b, run(1), true, true)
		other = y
		other.Sign = a.device(3, 0).Sign
		again("another secret that signs", other, b, run(1), false, false)
		other = y
		other.Fallback, other.Next, other.Left = api.Once{Id: 9}, 12, []api.Once{{Id: 3}}
		again("other keys of its own", other, b, run(1), false, false)
		c := b
		c.Agree, _ = a.public(a.device(4, 0))
		again("another one's key that agrees", y, a.resigned(c, x.Sign), run(1), false, true)
		c = b
		c.Once, _ = a.public(a.device(4, 0))
		again("another one-time key", y, a.resigned(c, x.Sign), run(1), true, true)
		c = b
		c.Id, c.Device = 77, 9
		again("another number and device", y, a.resigned(c, x.Sign), run(1), false, false)
		z, _ := a.begins(y, b, run(1), run(5))
		z.Mine = base.Mine
		if !alike(z, base) {
			t.Fatalf("another draw: %v, want %v", z, base)
		}
	}
}

func TestBeginByABadBundle(t *testing.T) {
	for _, a := range askers(t) {
		x, y := a.device(1, 1), a.device(2, 0)
		b := a.bundles(x, 5)[1]
		from := a.count()
		for i, other := range append(others(b), api.Bundle{}) {
			z, e := a.begin(y, other, run(1), run(2))
			a.is("Begin by a bundle that isn't checked", e, api.ErrSign)
			if !alike(z, api.Session{}) {
				t.Fatalf("the change %d: %v", i, z)
			}
		}
		if a.count() != from {
			t.Error("what is refused so makes terms")
		}
	}
}

func TestBeginWithoutAgreement(t *testing.T) {
	a := reckoner(t)
	x, y := a.device(1, 1), a.device(2, 0)
	for _, k := range low {
		for _, set := range []func(b *api.Bundle){
			func(b *api.Bundle) { b.Once = k },
			func(b *api.Bundle) { b.Agree = k },
			func(b *api.Bundle) { b.Once, b.Agree = k, k },
		} {
			b := a.bundles(x, 5)[1]
			set(&b)
			// The signature is asked first.
			_, e := a.begin(y, b, run(1), run(2))
			a.is("Begin by a key of low order that isn't signed", e, api.ErrSign)
			z, e := a.begin(y, a.resigned(b, x.Sign), run(1), run(2))
			a.is("Begin by a key of low order", e, api.ErrKey)
			if !alike(z, api.Session{}) {
				t.Fatalf("beside an error: %v", z)
			}
		}
	}
	c := termer(t)
	x, y = c.device(1, 1), c.device(2, 0)
	b := c.bundles(x, 5)[1]
	b.Once, b.Agree = api.Key{}, run(1)
	b = c.resigned(b, x.Sign)
	from := c.count()
	c.begins(y, b, run(1), run(2))
	c.made(from, "noooSpgpI01npMNKl")
}

func TestTermsOfBegin(t *testing.T) {
	a := termer(t)
	x, y := a.device(1, 1), a.device(2, 0)
	l := a.bundles(x, 5)
	from := a.count()
	a.begin(y, l[1], run(1), run(2))
	a.made(from, "nsssSpgpI01n")
	from = a.count()
	a.begin(y, l[1], run(1), run(2))
	a.made(from, "")
	a.begin(y, l[1], run(1), run(3))
	a.made(from, "n")
	from = a.count()
	// Its own bundle: a device may write to itself, if it will.
	a.begin(x, l[0], run(4), run(5))
	a.made(from, "nsssSpI01n")
	for i, want := range []string{"", "", "", ""} {
		from = a.count()
		bad := l[1]
		bad.Sig[i]++
		a.begin(y, bad, run(9), run(9))
		a.made(from, want)
	}
}

func TestBeginInAFullTable(t *testing.T) {
	for room, want := range []api.Errno{190, 190, 190, 190, 4, 4, 4, 4, 4, 4, 4, 4, 0} {
		a := termer(t)
		x, y := a.device(1, 1), a.device(2, 0)
		b := a.bundles(x, 5)[1]
		a.fill(room)
		for range 2 {
			z, e := a.begin(y, b, run(1), run(2))
			a.is("Begin with little room", e, want)
			if e != api.OK && !alike(z, api.Session{}) {
				t.Fatalf("with room for %d terms: %v", room, z)
			}
		}
		_, e := a.begin(y, api.Bundle{}, run(1), run(2))
		a.is("Begin by no bundle with little room", e, api.ErrSign)
	}
}

// lacks asks for ErrFull where just one term can't be made, all the others having been made before.
func lacks(t *testing.T, what string, make func(a asker, x, y api.Account, b api.Bundle)) {
	t.Helper()
	a := termer(t)
	x, y := a.device(1, 1), a.device(2, 0)
	b := a.bundles(x, 5)[1]
	make(a, x, y, b)
	a.fill(0)
	z, e := a.begin(y, b, run(1), run(2))
	a.is("Begin without "+what, e, api.ErrFull)
	if !alike(z, api.Session{}) {
		t.Fatalf("Begin without %s: %v", what, z)
	}
}

func TestBeginWithoutOneTerm(t *testing.T) {
	// early makes what Begin makes, but for what is left out; as if that were zeros.
	early := func(a asker, y api.Account, b api.Bundle, draw bool, left ...string) {
		for _, s := range a.suites() {
			var secret api.Key
			if !slices.Contains(left, "secret") {
				secret = s.Fresh(run(1))
			}
			k, _ := s.Agree(y.Agree, b.Once)
			l, _ := s.Agree(secret, b.Agree)
			m, _ := s.Agree(secret, b.Once)
			var shared, base, mine api.Key
			if !slices.Contains(left, "shared") {
				shared, _ = s.Mix('S', k[:], l[:], m[:])
			}
			if !slices.Contains(left, "public") {
				mine = s.Public(y.Agree)
			}
			if !slices.Contains(left, "signer") {
				s.Signer(y.Sign)
			}
			if !slices.Contains(left, "base") {
				base = s.Public(secret)
			}
			if !slices.Contains(left, "number") {
				s.Mix('I', mine[:], base[:], b.Once[:])
			}
			if !slices.Contains(left, "root") {
				s.Mix('0', shared[:])
			}
			if !slices.Contains(left, "row") {
				s.Mix('1', shared[:])
			}
			if draw {
				s.Fresh(run(2))
			}
		}
	}
	for _, what := range []string{"secret", "shared", "public", "signer", "base", "number", "root", "row"} {
		lacks(t, what, func(a asker, x, y api.Account, b api.Bundle) { early(a, y, b, true, what) })
	}
	lacks(t, "the draw", func(a asker, x, y api.Account, b api.Bundle) { early(a, y, b, false) })
}

// P19.4

func TestAnswer(t *testing.T) {
	for _, a := range askers(t) {
		x, y := a.device(1, 3), a.device(2, 0)
		for i, b := range a.bundles(x, 5) {
			z, h := a.begins(y, b, run(byte(i)), run(byte(100+i)))
			left, w, e := a.answer(x, h)
			a.is("Answer", e, api.OK)
			want := api.Session{Id: z.Id, Root: z.Root, HasRecv: true, Recv: z.Send, Theirs: h.Ratchet}
			if !alike(w, want) {
				t.Fatalf("Answer by the key %d: %v, want %v", i, w, want)
			}
			rest := copied(x)
			if i > 0 {
				rest.Left = slices.Delete(rest.Left, i-1, i)
			}
			if !same(left, rest) {
				t.Fatalf("Answer by the key %d leaves %v", i, left)
			}
			// Once more: by the fallback only.
			if i == 0 {
				_, again, e := a.answer(left, h)
				a.is("Answer by the fallback once more", e, api.OK)
				if !alike(again, want) {
					t.Fatalf("Answer by the fallback once more: %v", again)
				}
				continue
			}
			a.refuses("Answer by a key once more", left, h, api.ErrKey)
		}
	}
}

func TestAnswerToNoFirstLetter(t *testing.T) {
	for _, a := range askers(t) {
		x, y := a.device(1, 1), a.device(2, 0)
		_, h := a.begins(y, a.bundles(x, 5)[1], run(1), run(2))
		from := a.count()
		a.refuses("a zero header", x, api.Header{}, api.ErrArg)
		h.First = false
		a.refuses("a header that isn't a first letter's", x, h, api.ErrArg)
		// Ahead of whatever else.
		h.Id, h.Session, h.Base = 999, api.Key{}, api.Key{}
		a.refuses("a header that isn't a first letter's, of no key", x, h, api.ErrArg)
		if a.count() != from {
			t.Error("what is refused so makes terms")
		}
	}
}

func TestAnswerWithoutTheKey(t *testing.T) {
	for _, a := range askers(t) {
		x, y := a.device(1, 8), a.device(2, 0)
		_, h := a.begins(y, a.bundles(x, 5)[1], run(1), run(2))
		from := a.count()
		for _, id := range []uint16{9, 10, 256, 257, 65535} {
			h.Id = id
			a.refuses("a first letter by no key", x, h, api.ErrKey)
		}
		if a.count() != from {
			t.Error("what is refused so makes terms")
		}
		// By another key than that by which it was begun: its number is another.
		for id := range uint16(9) {
			if h.Id = id; id != 1 {
				a.refuses("a first letter by another key", x, h, api.ErrKey)
			}
		}
	}
}

func TestAnswerToAnotherNumber(t *testing.T) {
	for _, a := range askers(t) {
		x, y := a.device(1, 1), a.device(2, 0)
		_, h := a.begins(y, a.bundles(x, 5)[1], run(1), run(2))
		step := 1
		if a.s.Terms() == nil {
			step = 17 // all of them take seconds to reckon
		}
		for bit := 0; bit < 256; bit += step {
			other := h
			other.Session = turned(h.Session, bit)
			a.refuses("a first letter with another number", x, other, api.ErrKey)
			other = h
			other.Agree = turned(h.Agree, bit)
			a.refuses("a first letter of another device", x, other, api.ErrKey)
			other = h
			other.Base = turned(h.Base, bit)
			a.refuses("a first letter by another fresh secret", x, other, api.ErrKey)
		}
		other := h
		other.Agree, other.Base = h.Base, h.Agree
		a.refuses("a first letter with its keys round", x, other, api.ErrKey)
		other = h
		other.Session = api.Key{}
		a.refuses("a first letter without a number", x, other, api.ErrKey)
		a.refuses("another device's first letter", a.device(3, 1), h, api.ErrKey)
	}
}

// What else the header says isn't asked: it is sealed with the letter.
func TestAnswerToAnyRatchet(t *testing.T) {
	for _, a := range askers(t) {
		x, y := a.device(1, 1), a.device(2, 0)
		_, h := a.begins(y, a.bundles(x, 5)[1], run(1), run(2))
		for _, k := range secrets() {
			h.Ratchet, h.Signer, h.N, h.Prev = k, k, uint16(k[0]), 7
			_, z, e := a.answer(x, h)
			a.is("Answer", e, api.OK)
			if z.Theirs != k || z.Recv.N != 0 {
				t.Fatalf("Answer: %v", z)
			}
		}
	}
}

func TestAnswerWithoutAgreement(t *testing.T) {
	a := reckoner(t)
	x, y := a.device(1, 1), a.device(2, 0)
	_, h := a.begins(y, a.bundles(x, 5)[1], run(1), run(2))
	for _, k := range low {
		// With the right number of what is said, so that nothing else is wrong.
		for _, keys := range [][2]api.Key{{k, h.Base}, {h.Agree, k}, {k, k}} {
			other := h
			other.Agree, other.Base = keys[0], keys[1]
			once := a.s.Public(x.Left[0].Secret)
			other.Session, _ = a.s.Mix('I', other.Agree[:], other.Base[:], once[:])
			a.refuses("a first letter with a key of low order", x, other, api.ErrKey)
		}
	}
	b := termer(t)
	x = b.device(1, 1)
	from := b.count()
	b.refuses("a first letter that says zeros, by terms", x, api.Header{First: true, Id: 1}, api.ErrKey)
	b.made(from, "ooSpI")
	for _, s := range b.suites() {
		once := s.Public(x.Left[0].Secret)
		h.Session, _ = s.Mix('I', make([]byte, 32), make([]byte, 32), once[:])
	}
	_, _, e := b.answer(x, api.Header{First: true, Id: 1, Session: h.Session})
	b.is("a first letter that says zeros, with its number, by terms", e, api.OK)
}

func TestTermsOfAnswer(t *testing.T) {
	a := termer(t)
	x := a.device(1, 1)
	h := api.Header{First: true, Id: 1, Agree: run(1), Base: run(2), Ratchet: run(3)}
	from := a.count()
	a.refuses("a first letter with another number", x, h, api.ErrKey)
	a.made(from, "oooSpI")
	h.Session = named(a.count())
	from = a.count()
	_, _, e := a.answer(x, h)
	a.is("Answer", e, api.OK)
	a.made(from, "01")
	for _, s := range a.suites() {
		h.Agree, h.Base = s.Public(run(4)), s.Public(run(5))
	}
	h.Id = 0
	from = a.count()
	a.refuses("a first letter with another number", x, h, api.ErrKey)
	a.made(from, "sssSpI")
}

// The key of a number is the first that has it, the fallback ahead of the others.
func TestAnswerByTheFirstOfANumber(t *testing.T) {
	for _, a := range askers(t) {
		y := a.device(2, 0)
		x := a.device(1, 5)
		for i, n := range []uint16{3, 7, 3, 9, 7} {
			x.Left[i].Id = n
		}
		// by is a first letter by the key with that secret, under that number.
		by := func(secret api.Key, id uint16) api.Header {
			t.Helper()
			only := x
			only.Fallback = api.Once{Id: id, Secret: secret}
			_, h := a.begins(y, a.bundles(only, 1)[0], run(1), run(2))
			return h
		}
		answers := func(x api.Account, h api.Header, left ...int) api.Account {
			t.Helper()
			y, _, e := a.answer(x, h)
			a.is("Answer", e, api.OK)
			want := copied(x)
			want.Left = nil
			for _, i := range left {
				want.Left = append(want.Left, x.Left[i])
			}
			if !same(y, want) {
				t.Fatalf("Answer leaves %v, want %v", y, want)
			}
			return y
		}
		l := x.Left
		a.refuses("the second key of a number", x, by(l[2].Secret, 3), api.ErrKey)
		z := answers(x, by(l[0].Secret, 3), 1, 2, 3, 4)
		a.refuses("the first key of a number again", z, by(l[0].Secret, 3), api.ErrKey)
		z = answers(z, by(l[2].Secret, 3), 0, 2, 3)
		a.refuses("a third key of a number", z, by(l[0].Secret, 3), api.ErrKey)
		z = answers(z, by(l[1].Secret, 7), 1, 2)
		z = answers(z, by(l[3].Secret, 9), 1)
		z = answers(z, by(l[4].Secret, 7))
		answers(z, by(x.Fallback.Secret, 0))

		x.Fallback.Id = 7
		a.refuses("a key under the fallback's number", x, by(l[1].Secret, 7), api.ErrKey)
		z = answers(x, by(x.Fallback.Secret, 7), 0, 1, 2, 3, 4)
		answers(z, by(x.Fallback.Secret, 7), 0, 1, 2, 3, 4)
		a.refuses("the number 0, which no key has", x, by(x.Fallback.Secret, 0), api.ErrKey)
		x.Left[3].Id = 0
		z = answers(x, by(l[3].Secret, 0), 0, 1, 2, 4)
		a.refuses("the number 0 once more", z, by(l[3].Secret, 0), api.ErrKey)
	}
}

func TestAnswerInAFullTable(t *testing.T) {
	for _, c := range []struct {
		known bool // the number's term is there already, and the key's public one
		want  []api.Errno
	}{
		{false, []api.Errno{190, 190, 190, 190, 190, 190, 190, 190}},
		{true, []api.Errno{190, 190, 190, 4, 4, 4, 0}},
	} {
		for room, want := range c.want {
			a := termer(t)
			x := a.device(1, 1)
			h := api.Header{First: true, Id: 1, Agree: run(1), Base: run(2), Ratchet: run(3)}
			for _, s := range a.suites() {
				if c.known {
					once := s.Public(x.Left[0].Secret)
					h.Session, _ = s.Mix('I', h.Agree[:], h.Base[:], once[:])
				}
			}
			a.fill(room)
			for range 2 {
				left, y, e := a.answer(x, h)
				a.is("Answer with little room", e, want)
				if e != api.OK && (!same(left, x) || !alike(y, api.Session{})) {
					t.Fatalf("with room for %d terms: %v %v", room, left, y)
				}
			}
		}
	}
}

// What a full table can't give is zeros, and everybody could have made what goes on with these: no session is begun so.
func TestNoSessionOfZeros(t *testing.T) {
	for lacking := range 3 {
		a := termer(t)
		x := a.device(1, 1)
		h := api.Header{First: true, Id: 1, Agree: run(1), Base: run(2), Ratchet: run(3)}
		for _, s := range a.suites() {
			once := s.Public(x.Left[0].Secret)
			h.Session, _ = s.Mix('I', h.Agree[:], h.Base[:], once[:])
			k, _ := s.Agree(x.Left[0].Secret, h.Agree)
			l, _ := s.Agree(x.Agree, h.Base)
			m, _ := s.Agree(x.Left[0].Secret, h.Base)
			var shared api.Key
			if lacking != 0 {
				shared, _ = s.Mix('S', k[:], l[:], m[:])
			}
			if lacking != 1 {
				s.Mix('0', shared[:])
			}
			if lacking != 2 {
				s.Mix('1', shared[:])
			}
		}
		a.fill(0)
		a.refuses("a first letter of which one term can't be made", x, h, api.ErrFull)
		if _, e := account.Begin(a.s, x, api.Bundle{}, run(1), run(2)); e != api.ErrSign {
			t.Error(e)
		}
	}
	// Nor is a number that can't be made one that a header could say.
	a := termer(t)
	x := a.device(1, 1)
	h := api.Header{First: true, Id: 1, Agree: run(1), Base: run(2)}
	a.refuses("a first letter without a number", x, h, api.ErrKey)
	b := termer(t)
	x = b.device(1, 1)
	for _, s := range b.suites() {
		s.Public(x.Left[0].Secret)
	}
	b.fill(4)
	b.refuses("a first letter whose number can't be made", x, h, api.ErrKey)
}
