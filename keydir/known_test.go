package keydir_test

import (
	"fmt"
	"slices"
	"testing"

	"missive/api"
	"missive/keydir"
	"missive/suite"
	"missive/wire"
)

// P20.6, of objects: who makes one that is checked

// trust is the error that Check tells, if what is shown is right, or isn't.
func trust(right bool) api.Errno {
	if right {
		return api.OK
	}
	return api.ErrTrust
}

// Of all names that there are just one is the signature of an object, and just one that of a vouch.
func TestOneSignatureIsTaken(t *testing.T) {
	a := termer(t)
	c, l := a.cache(1), a.chain(1, 3, 2)
	// What others sign, under the same texts and under others.
	for server := range byte(4) {
		for n := range byte(4) {
			a.vouched(a.sign(secret(server, n), l[2]), 0, 1, 3)
			a.vouch(secret(server, n), l[2], 2)
		}
	}
	for at, x := range l {
		now := 100*uint32(at) + 100
		for i := range a.count() + 2 {
			name := named(i)
			sig := api.Sig(append(name[:], make([]byte, 32)...))
			other := laid(x)
			other.Sig = sig
			a.checks(fmt.Sprint("the name ", i, " as a signature"), c, 1, with(l, at, other)[:at+1], now, trust(sig == x.Sig))
			other = laid(x)
			other.Vouches[0].Sig = sig
			a.checks(fmt.Sprint("the name ", i, " as a vouch"), c, 1, with(l, at, other)[:at+1], now, trust(sig == x.Vouches[0].Sig))
		}
	}
}

// secrets are keys of four servers, of which nothing is known: each one's first, and three behind it.
type secrets [4][4]api.Key

// held are all of them but those for which out holds.
func (l secrets) held(out func(server, n int) bool) (held [][]byte) {
	for server, row := range l {
		for n, k := range row {
			if !out(server, n) {
				held = append(held, slices.Clone(k[:]))
			}
		}
	}
	return held
}

// laidOut are such servers, the own keys of the server 1, of which the server 2 has vouched for each, and what all others have seen of these but the last one.
func laidOut(s suite.Suite) (l secrets, c api.Cache, chain []api.Object, seen [][]byte) {
	c.Need = 1
	for server := range l {
		for n := range l[server] {
			l[server][n] = s.Fresh(secret(byte(server), byte(n)))
			k := s.Signer(l[server][n])
			seen = append(seen, k[:])
		}
		c.First[server] = s.Signer(l[server][0])
	}
	for n := 1; n < 4; n++ {
		x := keydir.Sign(s, l[1][n-1], api.Object{Server: 1, N: byte(n), Key: s.Signer(l[1][n]), Until: 100})
		chain = append(chain, keydir.Vouch(s, l[2][0], x, 2))
	}
	for _, x := range chain[:2] {
		b, _ := wire.PutObject(x)
		seen = append(seen, b)
	}
	return l, c, chain, seen
}

// The last object, which nobody has shown, is known just of who holds the key ahead and, for the vouch, the notary's; so is any other one that would be checked in its place.
func TestWhoCanMakeAnObject(t *testing.T) {
	s := suite.Free()
	l, c, chain, seen := laidOut(s)
	own := keydir.Vouch(s, l[2][0], keydir.Sign(s, l[1][2], api.Object{Server: 1, N: 3, Key: api.Key{9}, Until: 100}), 2)
	for _, x := range []api.Object{chain[2], own} {
		if _, n, e := keydir.Check(s, c, 1, []api.Object{chain[0], chain[1], x}, 50); n != 3 || e != api.OK {
			t.Fatalf("Check: %d %d", n, e)
		}
		for i, h := range []struct {
			out          func(server, n int) bool
			signs, vouch bool
		}{
			{func(_, _ int) bool { return false }, true, true},
			{func(_, _ int) bool { return true }, false, false},
			{func(server, n int) bool { return server == 1 && n == 2 }, false, true},
			{func(server, n int) bool { return server == 2 && n == 0 }, true, false},
			{func(server, n int) bool { return server == 1 && n == 2 || server == 2 && n == 0 }, false, false},
			{func(server, n int) bool { return server == 1 && n != 2 }, true, true},
			{func(server, n int) bool { return server == 2 && n != 0 }, true, true},
			{func(server, n int) bool { return server != 1 }, true, false},
			{func(server, n int) bool { return server != 2 }, false, true},
			{func(server, n int) bool { return server == 1 || server == 2 }, false, false},
			{func(server, n int) bool { return server != 1 && server != 2 }, true, true},
		} {
			known := s.Terms().Known(append(l.held(h.out), seen...))
			b, _ := wire.PutObject(x)
			if known.Has(x.Sig[:]) != h.signs || known.Has(x.Vouches[0].Sig[:]) != h.vouch || known.Has(b) != (h.signs && h.vouch) {
				t.Errorf("who holds %d: the signature is known %t, the vouch %t", i, known.Has(x.Sig[:]), known.Has(x.Vouches[0].Sig[:]))
			}
		}
	}
}

// Whichever secret of all signs or vouches, just one makes what is checked.
func TestWhoseSignatureIsChecked(t *testing.T) {
	s := suite.Free()
	l, c, chain, _ := laidOut(s)
	for server, row := range l {
		for n, k := range row {
			signed, vouched := keydir.Sign(s, k, chain[2]), keydir.Vouch(s, k, chain[2], 2)
			vouched.Vouches = vouched.Vouches[1:]
			for x, want := range map[*api.Object]api.Errno{
				&signed:  trust(server == 1 && n == 2),
				&vouched: trust(server == 2 && n == 0),
			} {
				if _, _, e := keydir.Check(s, c, 1, []api.Object{chain[0], chain[1], *x}, 50); e != want {
					t.Errorf("Check of what %d's key %d has to do with: %d, want %d", server, n, e, want)
				}
			}
		}
	}
}
