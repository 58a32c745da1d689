package keydir_test

import (
	"bytes"
	"math"
	"slices"
	"testing"

	"missive/account"
	"missive/api"
	"missive/keydir"
	"missive/suite"
)

// Rules that hold everywhere

// given is what is handed in: a call takes of it what it needs.
type given struct {
	x       api.Object
	chain   []api.Object
	shelf   api.Shelf
	bundles []api.Bundle
	b       []byte
}

// answer is what a call answers, all of it.
type answer struct {
	x      api.Object
	shelf  api.Shelf
	bundle api.Bundle
	b      []byte
	key    api.Key
	n      byte
	ok     bool
	e      api.Errno
}

func (a answer) copied() answer {
	a.x, a.shelf, a.b = laid(a.x), stood(a.shelf), slices.Clone(a.b)
	return a
}

func (a answer) is(b answer) bool {
	return alike(a.x, b.x) && same(a.shelf, b.shelf) && a.bundle == b.bundle && bytes.Equal(a.b, b.b) && a.key == b.key && a.n == b.n && a.ok == b.ok && a.e == b.e
}

// call is one of the package's, and what is handed in.
type call struct {
	what string
	given
	do func(g given) answer
}

func signs(s suite.Suite) func(given) answer {
	return func(g given) answer { return answer{x: keydir.Sign(s, run(1), g.x)} }
}

func vouches(s suite.Suite) func(given) answer {
	return func(g given) answer { return answer{x: keydir.Vouch(s, run(1), g.x, 2)} }
}

func checks(s suite.Suite, c api.Cache, now uint32) func(given) answer {
	return func(g given) answer {
		key, n, e := keydir.Check(s, c, 1, g.chain, now)
		return answer{key: key, n: n, e: e}
	}
}

func stocks(s suite.Suite, agree, signer api.Key) func(given) answer {
	return func(g given) answer {
		x, e := keydir.Stock(s, g.shelf, 5, agree, signer, g.bundles)
		return answer{shelf: x, e: e}
	}
}

func claims(g given) answer {
	x, b, ok := keydir.Claim(g.shelf)
	return answer{shelf: x, bundle: b, ok: ok}
}

func packs(g given) answer {
	b, ok := keydir.Pack(g.shelf)
	return answer{b: b, ok: ok}
}

func unpacking(g given) answer {
	x, ok := keydir.Unpack(g.b)
	return answer{shelf: x, ok: ok}
}

// keyCalls are some of each of those that have to do with servers' keys, done and refused.
func keyCalls(s suite.Suite) []call {
	c := api.Cache{Need: 1}
	for server := range byte(4) {
		c.First[server] = s.Signer(secret(server, 0))
	}
	var l []api.Object
	for n := range byte(3) {
		x := keydir.Sign(s, secret(1, n), api.Object{Server: 1, N: n + 1, Key: s.Signer(secret(1, n+1)), From: 5, Until: 9})
		l = append(l, keydir.Vouch(s, secret(2, 0), keydir.Vouch(s, secret(3, 0), x, 3), 2))
	}
	bare, late := laid(l[1]), c
	bare.Vouches, late.Highest[1] = nil, 4
	return []call{
		{"Sign", given{x: l[0]}, signs(s)},
		{"Sign without vouches", given{x: bare}, signs(s)},
		{"Vouch", given{x: l[0]}, vouches(s)},
		{"Vouch without vouches", given{x: bare}, vouches(s)},
		{"Check", given{chain: l}, checks(s, c, 6)},
		{"Check of none", given{}, checks(s, c, 6)},
		{"Check, ErrTrust", given{chain: l[1:]}, checks(s, c, 6)},
		{"Check, ErrTrust for a vouch", given{chain: []api.Object{l[0], bare}}, checks(s, c, 6)},
		{"Check, ErrOrder", given{chain: l}, checks(s, late, 6)},
		{"Check, ErrWhen", given{chain: l}, checks(s, c, 9)},
	}
}

// shelfCalls are some of each of the others.
func shelfCalls(t *testing.T, s suite.Suite) []call {
	t.Helper()
	x, e := account.More(s, account.New(s, run(1), run(2), run(3)), []api.Key{{1}, {2}, {3}, {4}})
	agree, signer := account.Public(s, x)
	l := account.Bundles(s, x, 5)
	shelf, why := keydir.Stock(s, api.Shelf{}, 5, agree, signer, l[:3])
	later := slices.Concat(l[:1], l[3:])
	packed, ok := keydir.Pack(shelf)
	if e != api.OK || why != api.OK || !ok {
		t.Fatal(e, why, ok)
	}
	full, last, none := filled(7), filled(0), api.Shelf{Last: 2}
	full.Last = 2
	return []call{
		{"Stock", given{shelf: shelf, bundles: later}, stocks(s, agree, signer)},
		{"Stock of an empty shelf", given{bundles: l}, stocks(s, agree, signer)},
		{"Stock of a fallback", given{shelf: shelf, bundles: l[:1]}, stocks(s, agree, signer)},
		{"Stock, ErrForm", given{shelf: shelf, bundles: l}, stocks(s, agree, signer)},
		{"Stock, ErrSign", given{shelf: shelf, bundles: later}, stocks(s, agree, agree)},
		{"Stock, ErrFull", given{shelf: full, bundles: later}, stocks(s, agree, signer)},
		{"Claim", given{shelf: shelf}, claims},
		{"Claim of a fallback", given{shelf: last}, claims},
		{"Claim of none", given{shelf: none}, claims},
		{"Pack", given{shelf: shelf}, packs},
		{"Pack of none left", given{shelf: last}, packs},
		{"Pack of too many", given{shelf: filled(9)}, packs},
		{"Unpack", given{b: packed}, unpacking},
		{"Unpack of no shelf's", given{b: packed[1:]}, unpacking},
	}
}

func calls(t *testing.T, s suite.Suite) []call {
	t.Helper()
	return slices.Concat(keyCalls(s), shelfCalls(t, s))
}

// behind is the list, and behind it a lot of x in its spare room.
func behind[T any](l []T, x T) []T {
	return slices.Concat(l, slices.Repeat([]T{x}, 20))[:len(l)]
}

// whole is the list with its spare room.
func whole[T any](l []T) []T { return l[:cap(l)] }

// roomy is what is given with spare room behind its lists, in which something lies.
func (g given) roomy() given {
	v := api.Vouch{Notary: 77, Sig: api.Sig{77}}
	g.chain = slices.Clone(g.chain)
	for i := range g.chain {
		g.chain[i].Vouches = behind(g.chain[i].Vouches, v)
	}
	g.x.Vouches, g.chain = behind(g.x.Vouches, v), behind(g.chain, api.Object{N: 77})
	g.shelf.Left, g.bundles = behind(g.shelf.Left, marked(77)), behind(g.bundles, marked(78))
	g.b = behind(g.b, 79)
	return g
}

// copied is all that is given, with all that lies in the spare room.
func (g given) copied() given {
	g.x.Vouches, g.chain = slices.Clone(whole(g.x.Vouches)), rowed(whole(g.chain))
	for i := range g.chain {
		g.chain[i].Vouches = slices.Clone(whole(g.chain[i].Vouches))
	}
	g.shelf.Left, g.bundles, g.b = slices.Clone(whole(g.shelf.Left)), slices.Clone(whole(g.bundles)), slices.Clone(whole(g.b))
	return g
}

// spoil writes over all that is given, and over its spare room.
func (g given) spoil() {
	l := [][]api.Vouch{g.x.Vouches}
	for i := range whole(g.chain) {
		x := &whole(g.chain)[i]
		l = append(l, x.Vouches)
		x.N, x.Sig[0] = x.N+1, x.Sig[0]+1
	}
	for _, l := range l {
		for i := range whole(l) {
			whole(l)[i].Notary++
		}
	}
	for _, l := range [][]api.Bundle{g.shelf.Left, g.bundles} {
		for i := range whole(l) {
			whole(l)[i].Id += 1000
		}
	}
	for i := range whole(g.b) {
		whole(g.b)[i]++
	}
}

func (g given) is(h given) bool {
	return alike(g.x, h.x) && slices.EqualFunc(g.chain, h.chain, alike) && same(g.shelf, h.shelf) && slices.Equal(g.bundles, h.bundles) && bytes.Equal(g.b, h.b)
}

// What is handed in, and its spare room, is left as it was; and neither kept nor shared.
func TestArgumentsAreLeft(t *testing.T) {
	for _, s := range []suite.Suite{suite.Real(), suite.Free()} {
		for i, c := range calls(t, s) {
			g := c.roomy()
			was := g.copied()
			got := c.do(g)
			if !g.copied().is(was) {
				t.Fatalf("%s: what is handed in is changed", c.what)
			}
			want := got.copied()
			g.spoil()
			if !got.is(want) {
				t.Fatalf("%s: the answer shares memory with what is handed in", c.what)
			}
			if c = calls(t, s)[i]; !c.do(c.roomy()).is(want) {
				t.Fatalf("%s: what is handed in is kept", c.what)
			}
		}
	}
}

// An answer may be written over, and put behind.
func TestAnswersAreNewMemory(t *testing.T) {
	for _, s := range []suite.Suite{suite.Real(), suite.Free()} {
		for _, c := range calls(t, s) {
			g := c.roomy()
			was := g.copied()
			one, two := c.do(g), c.do(g)
			want := two.copied()
			given{x: one.x, shelf: one.shelf, b: one.b}.spoil()
			one.x.Vouches = append(one.x.Vouches, make([]api.Vouch, 40)...)
			one.shelf.Left = append(one.shelf.Left, make([]api.Bundle, 40)...)
			one.b = append(one.b, make([]byte, 400)...)
			if !g.copied().is(was) {
				t.Fatalf("%s: what is handed in shares memory with the answer", c.what)
			}
			if !two.is(want) || !c.do(g).is(want) {
				t.Fatalf("%s: two answers share memory", c.what)
			}
		}
	}
}

// Nothing that isn't on the shelf lies in its list's spare room: no key that was claimed.
func TestNothingLiesBehind(t *testing.T) {
	for _, s := range []suite.Suite{suite.Real(), suite.Free()} {
		for _, c := range calls(t, s) {
			got := c.do(c.roomy())
			l := got.shelf.Left
			for _, b := range whole(l)[len(l):] {
				if b != (api.Bundle{}) {
					t.Fatalf("%s: behind the list there is %v", c.what, b)
				}
			}
			m := got.x.Vouches
			for _, v := range whole(m)[len(m):] {
				if v != (api.Vouch{}) {
					t.Fatalf("%s: behind the list there is %v", c.what, v)
				}
			}
		}
	}
}

// The same done twice answers the same, in another suite too; in the free suite nothing more is made by it.
func TestTheSameAgain(t *testing.T) {
	for _, s := range [][2]suite.Suite{{suite.Real(), suite.Real()}, {suite.Free(), suite.Free()}} {
		ones, twos := calls(t, s[0]), calls(t, s[1])
		for i, c := range ones {
			want := c.do(c.given)
			was := asker{T: t, s: s[0]}.count()
			if again := c.do(c.given); !again.is(want) || (asker{T: t, s: s[0]}).count() != was {
				t.Errorf("%s: done once more it answers %v, want %v", c.what, again, want)
			}
			if other := twos[i].do(twos[i].given); !other.is(want) {
				t.Errorf("%s: in another suite it answers %v, want %v", c.what, other, want)
			}
		}
	}
}

// The zero value is the real suite.
func TestZeroSuite(t *testing.T) {
	a := asker{t, suite.Suite{}, model{suite.Real()}}
	a.checks("two objects", a.cache(1), 1, a.chain(1, 2, 3), 210, api.OK)
	agree, signer, l := a.bundles(a.device(1, 2), 3)
	a.stocks("two keys", api.Shelf{}, 3, agree, signer, l, api.OK)
}

// What one suite signed is nothing to another one.
func TestAnotherSuite(t *testing.T) {
	a, b := reckoner(t), termer(t)
	b.checks("what was reckoned", b.cache(0), 1, a.chain(1, 1), 110, api.ErrTrust)
	agree, signer, l := a.bundles(a.device(1, 2), 3)
	b.stocks("what was reckoned", api.Shelf{}, 3, agree, signer, l, api.ErrSign)
	c := termer(t)
	x := b.object(1, 1)
	c.checks("another table's", c.cache(0), 1, []api.Object{x}, 110, trust(false))
}

// Keys are any bytes: names of terms too, of those that are there and of those that come.
func TestNamesAsKeys(t *testing.T) {
	a := termer(t)
	for _, n := range []int{0, 1, 2, 3, 9, 30, math.MaxUint16, math.MaxInt32 - 1} {
		for i := range 3 {
			k := [3]api.Key{named(n), named(a.count() + 1), named(a.count() + 2)}[i]
			c := a.cache(0)
			c.First[1] = k
			x := a.vouch(k, a.sign(k, api.Object{Server: 1, N: 1, Key: k, Until: 9}), 2)
			a.checks("by a key that is no signer", c, 1, []api.Object{x}, 5, api.ErrTrust)
			c.First[1], c.First[2], c.Need = a.signer(k), a.signer(k), 1
			a.checks("by a name", c, 1, []api.Object{x}, 5, api.OK)
			a.stock(api.Shelf{}, 1, k, k, []api.Bundle{{Device: 1, Agree: k, Signer: k, Once: k, Sig: api.Sig(append(k[:], k[:]...))}})
		}
	}
}

// Whatever comes is taken, or refused, and nothing more.
func TestTotal(t *testing.T) {
	for _, a := range askers(t) {
		d := drawer(12)
		for i := range 120 {
			var l []api.Object
			for range d.below(7) {
				l = append(l, d.object(d.below(6)))
			}
			c := api.Cache{Need: byte(d.below(5))}
			for j := range c.First {
				c.First[j], c.Highest[j] = d.key(), byte(d.below(256))
			}
			a.check(c, byte(d.below(6)), l, uint32(d.below(1<<31)))
			a.check(c, byte(d.below(256)), nil, uint32(i))
			x := d.shelf(d.below(12))
			bundles := []api.Bundle{}
			for range d.below(12) {
				bundles = append(bundles, d.bundle())
			}
			slices.SortFunc(bundles, func(x, y api.Bundle) int { return int(x.Id) - int(y.Id) })
			if len(bundles) > 0 && i%3 > 0 {
				bundles[0].Id = 0
			}
			a.stock(x, byte(i), d.key(), d.key(), bundles)
			claim(t, x)
			if b, ok := keydir.Pack(x); ok != (len(x.Left) < 9) {
				t.Fatalf("Pack(%v): %x %t", x, b, ok)
			}
		}
		a.sign(api.Key{}, api.Object{})
		a.vouch(api.Key{}, api.Object{Vouches: make([]api.Vouch, 100)}, 255)
		a.check(api.Cache{Need: 255, Highest: [4]byte{255, 255, 255, 255}}, 0, make([]api.Object, 9), 0)
		a.stock(api.Shelf{}, 0, api.Key{}, api.Key{}, make([]api.Bundle, 1))
	}
}
