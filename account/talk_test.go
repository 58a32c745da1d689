package account_test

import (
	"crypto/ecdh"
	"crypto/ed25519"
	"crypto/hmac"
	"crypto/sha256"
	"fmt"
	"slices"
	"testing"

	"missive/account"
	"missive/api"
	"missive/ratchet"
	"missive/suite"
	"missive/wire"
)

// What the library reckons, with the labels and the pieces written out.

// mixed is the key that is made of a label and of parts.
func mixed(label byte, parts ...[]byte) (k api.Key) {
	h := hmac.New(sha256.New, []byte{label})
	h.Write(joined(parts...))
	return api.Key(h.Sum(nil))
}

// ours is a secret that agrees.
func ours(t *testing.T, secret api.Key) *ecdh.PrivateKey {
	t.Helper()
	k, e := ecdh.X25519().NewPrivateKey(secret[:])
	if e != nil {
		t.Fatal(e)
	}
	return k
}

// both is what two secrets have in common.
func both(t *testing.T, a, b *ecdh.PrivateKey) []byte {
	t.Helper()
	k, e := a.ECDH(b.PublicKey())
	if e != nil {
		t.Fatal(e)
	}
	return k
}

func TestReckonedByTheLibrary(t *testing.T) {
	s := suite.Real()
	x := account.New(s, run(10), run(20), run(30))
	x, why := account.More(s, x, []api.Key{run(40), run(50)})
	y := account.New(s, run(60), run(70), run(80))
	l := account.Bundles(s, x, 7)
	if why != api.OK || len(l) != 3 {
		t.Fatal(why, l)
	}
	signer := ed25519.NewKeyFromSeed(slices.Clone(x.Sign[:]))
	for i, secret := range []api.Key{run(30), run(40), run(50)} {
		a, b, e, o := ours(t, run(60)), ours(t, run(10)), ours(t, run(90)), ours(t, secret)
		want := api.Bundle{Device: 7, Agree: api.Key(b.PublicKey().Bytes()), Signer: api.Key(signer.Public().(ed25519.PublicKey)), Id: uint16(i), Once: api.Key(o.PublicKey().Bytes())}
		want.Sig = api.Sig(ed25519.Sign(signer, signed(want)))
		if l[i] != want {
			t.Fatalf("the bundle %d: %v, want %v", i, l[i], want)
		}
		if p := account.Print(s, want.Agree, want.Signer); p != mixed('F', want.Agree[:], want.Signer[:]) {
			t.Fatalf("Print: %x", p)
		}
		shared := mixed('S', both(t, a, o), both(t, e, b), both(t, e, o))
		id := mixed('I', a.PublicKey().Bytes(), e.PublicKey().Bytes(), o.PublicKey().Bytes())
		z, why := account.Begin(s, y, l[i], run(90), run(100))
		if why != api.OK || z.Id != id || z.Root != mixed('0', shared[:]) || z.Send.Key != mixed('1', shared[:]) || z.Mine != run(100) || z.Base != api.Key(e.PublicKey().Bytes()) {
			t.Fatalf("Begin by the bundle %d: %v %d", i, z, why)
		}
		h := api.Header{Session: id, First: true, Agree: z.Agree, Signer: z.Signer, Base: z.Base, Id: uint16(i), Ratchet: run(1)}
		_, w, why := account.Answer(s, x, h)
		if why != api.OK || w.Id != id || w.Root != z.Root || w.Recv != z.Send || w.Theirs != run(1) {
			t.Fatalf("Answer by the key %d: %v %d", i, w, why)
		}
	}
}

// P19.6

// letter is a header and a body, and what was sealed.
type letter struct {
	api.Header
	body []byte
	text string
}

// writes seals a letter.
func writes(t *testing.T, s suite.Suite, x *api.Session, draw api.Key, text string) letter {
	t.Helper()
	now, h, body, e := ratchet.Seal(s, *x, draw, []byte(text))
	if e != api.OK {
		t.Fatalf("Seal: %d", e)
	}
	*x = now
	return letter{h, body, text}
}

// reads opens a letter, which must be what it was.
func reads(t *testing.T, s suite.Suite, x *api.Session, l letter) {
	t.Helper()
	now, plain, e := ratchet.Open(s, *x, l.Header, l.body)
	if e != api.OK || string(plain) != l.text {
		t.Fatalf("Open of %q: %q %d", l.text, plain, e)
	}
	*x = now
}

// Whichever first letter comes first, and however the others do.
func TestOneSession(t *testing.T) {
	for at := range 3 {
		for which := range 3 {
			for _, a := range askers(t) {
				a.oneSession(which, at)
			}
		}
	}
}

// oneSession is a talk by the bundle of that place, of which the letter of that place comes first.
func (a asker) oneSession(which, at int) {
	t, s := a.T, a.s
	t.Helper()
	x, y := a.device(1, 2), a.device(2, 1)
	z, _ := a.begins(y, a.bundles(x, 5)[which], run(1), run(2))
	var l []letter
	for i := range 3 {
		l = append(l, writes(t, s, &z, run(9), fmt.Sprint("letter ", i)))
	}
	left, w, e := account.Answer(s, x, l[at].Header)
	if e != api.OK || len(left.Left) != 2-min(which, 1) {
		t.Fatalf("Answer: %v %d", left, e)
	}
	for i := range 3 {
		reads(t, s, &w, l[(at+i)%3])
	}
	back := writes(t, s, &w, run(3), "back")
	late := writes(t, s, &z, run(3), "late")
	reads(t, s, &z, back)
	reads(t, s, &w, late)
	more := writes(t, s, &z, run(4), "more")
	reads(t, s, &w, more)
	reads(t, s, &z, writes(t, s, &w, run(5), "enough"))
	if more.First || !late.First {
		t.Fatalf("the header of an answered session: %+v", more.Header)
	}
	if _, _, e := account.Answer(s, left, more.Header); e != api.ErrArg {
		t.Errorf("Answer to what isn't a first letter: %d", e)
	}
	if _, _, e := account.Answer(s, left, late.Header); (e == api.OK) != (which == 0) || which > 0 && e != api.ErrKey {
		t.Errorf("Answer to a late first letter, by the key %d: %d", which, e)
	}
}

// As they are kept, and as they go over the net: by their bytes.
func TestOneSessionByBytes(t *testing.T) {
	for _, a := range askers(t) {
		s := a.s
		kept := func(x api.Account) api.Account {
			t.Helper()
			b, ok := account.Pack(x)
			y, also := account.Unpack(b)
			if !ok || !also {
				t.Fatalf("Pack and Unpack of %s: %t %t", shown(x), ok, also)
			}
			return y
		}
		x, y := kept(a.device(1, 8)), kept(a.device(2, 0))
		for i := range 9 {
			b, ok := wire.PutBundle(account.Bundles(s, x, 5)[min(i, 1)])
			bundle, e := wire.GetBundle(b)
			if !ok || e != api.OK {
				t.Fatalf("the bundle's bytes: %t %d", ok, e)
			}
			z, why := account.Begin(s, y, bundle, run(byte(i)), run(2))
			if why != api.OK {
				t.Fatalf("Begin: %d", why)
			}
			l := writes(t, s, &z, run(9), "hello")
			b, ok = wire.PutLetter(api.Letter{From: 6, To: 5, Header: l.Header, Body: l.body})
			came, e := wire.GetLetter(b)
			if !ok || e != api.OK {
				t.Fatalf("the letter's bytes: %t %d", ok, e)
			}
			left, w, e := account.Answer(s, x, came.Header)
			if e != api.OK {
				t.Fatalf("Answer: %d", e)
			}
			x = kept(left)
			reads(t, s, &w, l)
			reads(t, s, &z, writes(t, s, &w, run(3), "back"))
		}
		if len(x.Left) != 0 || x.Next != 9 {
			t.Fatalf("what is left: %v", x)
		}
	}
}

// Two that have one bundle: a one-time key answers once; the fallback both, by sessions that are two.
func TestAKeyAnswersOnce(t *testing.T) {
	for _, a := range askers(t) {
		x := a.device(1, 1)
		l := a.bundles(x, 5)
		for which := range 2 {
			_, one := a.begins(a.device(2, 0), l[which], run(1), run(2))
			_, two := a.begins(a.device(3, 0), l[which], run(3), run(4))
			left, y, e := a.answer(x, one)
			a.is("Answer", e, api.OK)
			if which == 1 {
				a.refuses("another one's letter by the same key", left, two, api.ErrKey)
				continue
			}
			_, z, e := a.answer(left, two)
			a.is("Answer", e, api.OK)
			if y.Id == z.Id || y.Root == z.Root || y.Recv.Key == z.Recv.Key {
				t.Fatalf("two sessions by the fallback: %v %v", y, z)
			}
		}
		// A number that was used up is never given anew.
		left, _, e := a.answer(x, a.first(a.session(x, l[1])))
		a.is("Answer", e, api.OK)
		left, e = a.more(left, draws(8, 8))
		if e != api.OK || left.Left[0].Id != 2 {
			t.Fatalf("More behind an answer: %v %d", left, e)
		}
	}
}

// session is one that somebody begins by the bundle.
func (a asker) session(x api.Account, b api.Bundle) api.Session {
	a.Helper()
	y, _ := a.begins(a.device(77, 0), b, run(7), run(8))
	return y
}

// In the free suite: of all that goes over the net nothing secret is known; and who has got hold of some secrets knows the session just if each of the three agreements has one of them.
func TestWhoKnowsASession(t *testing.T) {
	for held := range 16 {
		s := suite.Free()
		x := account.New(s, run(1), run(2), run(3))
		y := account.New(s, run(4), run(5), run(6))
		x, _ = account.More(s, x, []api.Key{run(7)})
		l := account.Bundles(s, x, 5)
		z, e := account.Begin(s, y, l[1], run(8), run(9))
		if e != api.OK {
			t.Fatalf("Begin: %d", e)
		}
		text := s.Fresh(run(10))
		root, row := z.Root, z.Send.Key
		first := writes(t, s, &z, run(11), string(text[:]))
		own := s.Fresh(run(12))
		seen := [][]byte{own[:], first.body}
		for _, b := range append(l, account.Bundles(s, y, 6)...) {
			bytes, _ := wire.PutBundle(b)
			seen = append(seen, bytes)
		}
		header, _ := wire.HeaderBytes(first.Header)
		seen = append(seen, header)
		a, b, fresh, o := y.Agree, x.Agree, s.Fresh(run(8)), x.Left[0].Secret
		hidden := []api.Key{y.Sign, x.Sign, x.Fallback.Secret, y.Fallback.Secret, z.Mine}
		has := [4]bool{}
		for i, k := range []api.Key{a, b, fresh, o} {
			if has[i] = held>>i&1 == 1; has[i] {
				seen = append(seen, k[:])
			} else {
				hidden = append(hidden, k)
			}
		}
		known := s.Terms().Known(seen)
		all := (has[0] || has[3]) && (has[2] || has[1]) && (has[2] || has[3])
		for _, k := range []api.Key{root, row, text} {
			if known.Has(k[:]) != all {
				t.Errorf("who holds %v: %x is known %t", has, k[:8], !all)
			}
		}
		for _, k := range hidden {
			if known.Has(k[:]) {
				t.Errorf("who holds %v knows the secret %x", has, k[:8])
			}
		}
	}
}
