package keydir_test

import (
	"crypto/ed25519"
	"fmt"
	"math"
	"slices"
	"testing"

	"missive/api"
	"missive/keydir"
	"missive/suite"
)

// secret is that of the server's key of that number.
func secret(server, n byte) api.Key { return run(16*server + 4*n + 1) }

// cache knows the first keys of all four servers.
func (a asker) cache(need byte) (c api.Cache) {
	c.Need = need
	for server := range byte(4) {
		c.First[server] = a.signer(secret(server, 0))
	}
	return c
}

// object is the server's key of that number, which holds from 100 n to 100 n + 49, signed by the key ahead.
func (a asker) object(server, n byte) api.Object {
	a.Helper()
	x := api.Object{Server: server, N: n, Key: a.signer(secret(server, n)), From: 100 * uint32(n), Until: 100*uint32(n) + 50}
	return a.sign(secret(server, n-1), x)
}

// vouched is the object, with vouches of these servers.
func (a asker) vouched(x api.Object, notaries ...byte) api.Object {
	a.Helper()
	for _, n := range notaries {
		x = a.vouch(secret(n, 0), x, n)
	}
	return x
}

// chain are so many keys of the server, each with vouches of these servers.
func (a asker) chain(server byte, keys int, notaries ...byte) (l []api.Object) {
	a.Helper()
	for n := range keys {
		l = append(l, a.vouched(a.object(server, byte(n+1)), notaries...))
	}
	return l
}

// with is the list with x at that place.
func with[T any](l []T, at int, x T) []T {
	l = slices.Clone(l)
	l[at] = x
	return l
}

// P20.1

func TestSign(t *testing.T) {
	for _, a := range askers(t) {
		d := drawer(20)
		for i := range 12 {
			x := d.object(i % 6)
			for _, k := range []api.Key{{}, run(byte(i)), d.key()} {
				y := a.sign(k, x)
				if !a.s.Verify(a.signer(k), objectText(x), y.Sig) {
					t.Fatalf("Sign(%x, %v): %x", k, x, y.Sig)
				}
				if again := a.sign(k, y); !alike(again, y) {
					t.Fatalf("Sign once more: %v, want %v", again, y)
				}
				y.Sig = x.Sig
				if !alike(x, y) {
					t.Fatalf("Sign changed more than the Sig: %v, want %v", y, x)
				}
			}
		}
		a.sign(run(1), api.Object{})
	}
}

// Who vouches for an object hasn't to do with its signature.
func TestSignPassesOverVouches(t *testing.T) {
	for _, a := range askers(t) {
		x := a.object(1, 1)
		if y := a.sign(secret(1, 0), a.vouched(x, 2, 3)); y.Sig != x.Sig || len(y.Vouches) != 2 {
			t.Errorf("Sign of what is vouched for: %v", y)
		}
	}
}

func TestVouch(t *testing.T) {
	for _, a := range askers(t) {
		d := drawer(21)
		for i := range 9 {
			x := d.object(i)
			for _, notary := range []byte{0, 1, 3, 4, 255, byte(d.below(256))} {
				k := d.key()
				y := a.vouch(k, x, notary)
				if len(y.Vouches) != i+1 || y.Vouches[i].Notary != notary || !a.s.Verify(a.signer(k), vouchText(x, notary), y.Vouches[i].Sig) {
					t.Fatalf("Vouch(%x, %v, %d): %v", k, x, notary, y)
				}
				y.Vouches = y.Vouches[:i]
				if !alike(x, y) {
					t.Fatalf("Vouch changed more than the vouches: %v, want %v", y, x)
				}
			}
		}
		a.vouch(run(1), api.Object{}, 0)
		// It doesn't hang on the object's own signature, nor on other vouches.
		x := a.object(1, 1)
		y := a.vouched(x, 3, 2)
		x.Sig = api.Sig{}
		if z := a.vouched(x, 2); z.Vouches[0] != y.Vouches[1] {
			t.Errorf("Vouch without a Sig: %v, want %v", z.Vouches[0], y.Vouches[1])
		}
		// Whoever has vouched may vouch once more.
		if y = a.vouched(y, 2, 2); len(y.Vouches) != 4 {
			t.Errorf("Vouch, again and again: %v", y)
		}
	}
}

func TestSignAndVouchByTheLibrary(t *testing.T) {
	s := suite.Real()
	x := api.Object{Server: 2, N: 3, Key: run(7), From: 0x01020304, Until: 0xfffefdfc}
	text := "\x06\x00\x03key\x00\x01\x02\x00\x01\x03\x00\x20" + string(x.Key[:]) + "\x00\x04\x01\x02\x03\x04\x00\x04\xff\xfe\xfd\xfc"
	k := run(30)
	by := ed25519.NewKeyFromSeed(k[:])
	y := keydir.Sign(s, k, x)
	if want := api.Sig(ed25519.Sign(by, []byte(text))); y.Sig != want {
		t.Errorf("Sign: %x, want %x", y.Sig, want)
	}
	y = keydir.Vouch(s, k, y, 3)
	text = "\x03\x00\x05vouch\x00\x01\x03\x00" + string([]byte{byte(len(text))}) + text
	if want := api.Sig(ed25519.Sign(by, []byte(text))); y.Vouches[0] != (api.Vouch{Notary: 3, Sig: want}) {
		t.Errorf("Vouch: %v, want %x", y.Vouches, want)
	}
}

// Where the table is full there are zeros, which nobody takes for a signature.
func TestSignAndVouchInAFullTable(t *testing.T) {
	a := termer(t)
	c, x := a.cache(1), a.object(1, 1)
	key := a.signer(secret(1, 1))
	a.fill(1)
	y := a.vouched(x, 2)
	a.checks("in a full table", c, 1, []api.Object{y}, 100, api.OK)
	if z := a.vouched(x, 3); z.Vouches[0] != (api.Vouch{Notary: 3}) {
		t.Errorf("Vouch in a full table: %v", z)
	} else {
		a.checks("a vouch of zeros", c, 1, []api.Object{z}, 100, api.ErrTrust)
	}
	z := a.sign(secret(1, 1), api.Object{Server: 1, N: 2, Key: key, From: 5, Until: 8})
	if z.Sig != (api.Sig{}) {
		t.Errorf("Sign in a full table: %v", z)
	}
	c.Need = 0
	a.checks("a signature of zeros", c, 1, []api.Object{y, z}, 6, api.ErrTrust)
	if a.count() != api.MaxTerms {
		t.Errorf("%d terms", a.count())
	}
}

// P20.2

func TestCheckOfNoObjects(t *testing.T) {
	for _, a := range askers(t) {
		c := a.cache(3)
		c.First[2] = api.Key{}
		for server := range 256 {
			for _, now := range []uint32{0, 1, math.MaxUint32} {
				key, n, e := a.check(c, byte(server), nil, now)
				if server >= 4 {
					a.is("Check of a server that there isn't", e, api.ErrTrust)
				} else if e != api.OK || key != c.First[server] || n != 0 {
					t.Fatalf("Check of no objects of %d: %x %d %d", server, key, n, e)
				}
			}
		}
		a.check(c, 1, []api.Object{}, 7)
		a.check(api.Cache{}, 1, nil, 7)
	}
}

func TestCheckOfEachLength(t *testing.T) {
	for _, a := range askers(t) {
		for _, server := range []byte{0, 3} {
			c, l := a.cache(0), a.chain(server, 5)
			for n := range 5 {
				key, number, e := a.check(c, server, l[:n], 100*uint32(n)+30)
				if e != api.OK || int(number) != n || key != a.signer(secret(server, byte(n))) {
					t.Fatalf("Check of %d objects: %x %d %d", n, key, number, e)
				}
			}
			a.checks("five objects", c, server, l, 530, api.ErrTrust)
			a.checks("very many objects", c, server, slices.Repeat(l, 200), 530, api.ErrTrust)
		}
		// A server that isn't there has no objects either.
		for _, server := range []byte{4, 5, 255} {
			c := a.cache(0)
			a.checks("another server's", c, server, a.chain(3, 1), 110, api.ErrTrust)
			a.checks("a server's beyond the last", c, server, []api.Object{a.sign(secret(0, 0), api.Object{Server: server, N: 1, Until: 9})}, 5, api.ErrTrust)
		}
	}
}

// otherObjects are the object with each of its fields another.
func otherObjects(x api.Object) (l []api.Object) {
	for _, set := range []func(x *api.Object){
		func(x *api.Object) { x.Server++ },
		func(x *api.Object) { x.Server += 128 },
		func(x *api.Object) { x.N++ },
		func(x *api.Object) { x.N-- },
		func(x *api.Object) { x.N += 128 },
		func(x *api.Object) { x.Key = turned(x.Key, 0) },
		func(x *api.Object) { x.Key = turned(x.Key, 254) },
		func(x *api.Object) { x.From-- },
		func(x *api.Object) { x.From += 1 << 24 },
		func(x *api.Object) { x.Until++ },
		func(x *api.Object) { x.Until += 1 << 16 },
		func(x *api.Object) { x.Sig[0]++ },
		func(x *api.Object) { x.Sig[7]++ },
		func(x *api.Object) { x.Sig[63]++ },
		func(x *api.Object) { x.Sig = api.Sig{} },
	} {
		other := x
		set(&other)
		l = append(l, other)
	}
	return l
}

func TestCheckOfOtherObjects(t *testing.T) {
	for _, a := range askers(t) {
		c, l := a.cache(0), a.chain(1, 4)
		for at, x := range l {
			now := 100*uint32(at) + 130
			a.checks("as it is", c, 1, l[:at+1], now, api.OK)
			for i, other := range otherObjects(x) {
				a.checks(fmt.Sprint("the object ", at, " with the change ", i), c, 1, with(l, at, other)[:at+1], now, api.ErrTrust)
			}
		}
		a.checks("another one's", c, 2, l, 430, api.ErrTrust)
		a.checks("one less ahead", c, 1, l[1:], 430, api.ErrTrust)
		a.checks("one less between", c, 1, []api.Object{l[0], l[2]}, 430, api.ErrTrust)
		a.checks("two round", c, 1, []api.Object{l[1], l[0]}, 430, api.ErrTrust)
		a.checks("one twice", c, 1, []api.Object{l[0], l[0]}, 130, api.ErrTrust)
		a.checks("a zero object", c, 1, []api.Object{{}}, 0, api.ErrTrust)
	}
}

// What an object says otherwise isn't right because it is signed.
func TestCheckOfResignedObjects(t *testing.T) {
	for _, a := range askers(t) {
		c, l := a.cache(0), a.chain(1, 3)
		for at, x := range l {
			now := 100*uint32(at) + 130
			ahead := secret(1, byte(at))
			for _, server := range []byte{0, 2, 3, 4, 129, 255} {
				other := x
				other.Server = server
				a.checks("another Server", c, 1, with(l, at, a.sign(ahead, other))[:at+1], now, api.ErrTrust)
			}
			for _, n := range []byte{0, 1, 2, 3, 4, 5, byte(at) + 129, 255} {
				want := api.ErrTrust
				if int(n) == at+1 {
					want = api.OK
				}
				other := x
				other.N = n
				a.checks("another N", c, 1, with(l, at, a.sign(ahead, other))[:at+1], now, want)
			}
			for server := range byte(3) {
				for n := range byte(4) {
					want := api.ErrTrust
					if server == 1 && int(n) == at {
						want = api.OK
					}
					a.checks(fmt.Sprint("signed by the key ", n, " of ", server), c, 1, with(l, at, a.sign(secret(server, n), x))[:at+1], now, want)
				}
			}
			// What is signed under another text.
			for _, text := range [][]byte{nil, objectText(x)[1:], append(objectText(x), 0), vouchText(x, 1), joined(objectText(x))} {
				other := x
				for _, s := range a.suites() {
					other.Sig = s.Sign(ahead, text)
				}
				a.checks("signed under another text", c, 1, with(l, at, other)[:at+1], now, api.ErrTrust)
			}
			// Its own key, and times, may be any.
			other := x
			other.Key, other.From, other.Until = api.Key{5}, 0, math.MaxUint32
			a.checks("another key", c, 1, with(l, at, a.sign(ahead, other))[:at+1], 4000, api.OK)
		}
	}
}

// Each set of notaries, beside each need.
func TestNeed(t *testing.T) {
	for _, a := range askers(t) {
		for set := range 16 {
			var by []byte
			others := 0
			for n := range byte(4) {
				if set>>n&1 == 1 {
					by = append(by, n)
					if n != 2 {
						others++
					}
				}
			}
			l := a.chain(2, 1, by...)
			needs := []byte{0, 1, 2, 3, 4, 5, 16, 255}
			if a.s.Terms() == nil {
				needs = []byte{byte(others), byte(others) + 1}
			}
			for _, need := range needs {
				want := api.OK
				if others < int(need) {
					want = api.ErrTrust
				}
				a.checks(fmt.Sprint("need ", need, " of ", by), a.cache(need), 2, l, 110, want)
			}
			// In whatever order they stand.
			slices.Reverse(l[0].Vouches)
			a.checks("the other way round", a.cache(byte(others)), 2, l, 110, api.OK)
		}
	}
}

// Each object needs its own, the last one not more than the others.
func TestEachObjectNeedsVouches(t *testing.T) {
	for _, a := range askers(t) {
		c := a.cache(2)
		l := a.chain(1, 4, 0, 3)
		a.checks("all", c, 1, l, 410, api.OK)
		for at := range l {
			other := l[at]
			other.Vouches = other.Vouches[:1]
			a.checks("one less", c, 1, with(l, at, other), 410, api.ErrTrust)
			other.Vouches = nil
			a.checks("none", c, 1, with(l, at, other), 410, api.ErrTrust)
			other.Vouches = l[(at+1)%4].Vouches
			a.checks("another one's", c, 1, with(l, at, other), 410, api.ErrTrust)
		}
	}
}

// What is no vouch that counts, whoever stands beside it.
func TestVouchesThatDoNotCount(t *testing.T) {
	for _, a := range askers(t) {
		x := a.object(1, 1)
		good := a.vouched(x, 2).Vouches[0]
		signed := func(notary byte, by api.Key, text []byte) api.Vouch {
			v := api.Vouch{Notary: notary}
			for _, s := range a.suites() {
				v.Sig = s.Sign(by, text)
			}
			return v
		}
		l := []api.Vouch{
			{},
			{Notary: 3},
			signed(1, secret(1, 0), vouchText(x, 1)), // the server itself
			signed(3, secret(3, 1), vouchText(x, 3)), // not by the first key
			signed(3, secret(2, 0), vouchText(x, 3)), // by another notary's
			signed(3, secret(1, 0), vouchText(x, 3)), // by the server's own
			signed(3, secret(3, 0), vouchText(x, 2)), // another notary is named
			signed(3, secret(3, 0), objectText(x)),   // signed, not vouched for
			signed(3, secret(3, 0), vouchText(x, 3)[1:]),
			signed(3, secret(3, 0), append(vouchText(x, 3), 0)),
			signed(3, secret(3, 0), vouchText(a.object(1, 2), 3)), // another object
			signed(3, secret(3, 0), vouchText(a.object(0, 1), 3)),
			{Notary: 3, Sig: good.Sig},
			{Notary: 0, Sig: good.Sig},
			{Notary: 4, Sig: good.Sig},
		}
		for _, notary := range []byte{4, 5, 6, 7, 128, 130, 255} {
			l = append(l, signed(notary, secret(notary%4, 0), vouchText(x, notary)))
		}
		for bit := 0; bit < 512; bit += 73 {
			v := a.vouched(x, 3).Vouches[0]
			v.Sig[bit/8] ^= 1 << (bit % 8)
			l = append(l, v)
		}
		for _, other := range otherObjects(x)[:11] {
			l = append(l, a.vouched(other, 3).Vouches[0])
		}
		for i, v := range l {
			for need, row := range map[byte][]api.Vouch{1: {v}, 2: {good, v}} {
				other := x
				other.Vouches = row
				a.checks(fmt.Sprint("the vouch ", i), a.cache(need), 1, []api.Object{other}, 110, api.ErrTrust)
				slices.Reverse(other.Vouches)
				a.checks(fmt.Sprint("the vouch ", i, " ahead"), a.cache(need-1), 1, []api.Object{other}, 110, api.OK)
			}
		}
	}
}

// One notary is one, however often it vouches; and a vouch that is wrong spoils none that is right.
func TestOneNotaryIsOne(t *testing.T) {
	for _, a := range askers(t) {
		x := a.object(1, 1)
		good := a.vouched(x, 0, 2, 3).Vouches
		bad := slices.Clone(good)
		for i := range bad {
			bad[i].Sig[3]++
		}
		for i, c := range []struct {
			vouches []api.Vouch
			count   byte
		}{
			{slices.Repeat(good[:1], 2), 1},
			{slices.Repeat(good[:1], 3), 1},
			{slices.Repeat(good[2:], 9), 1},
			{slices.Repeat(good[1:], 2), 2},
			{[]api.Vouch{good[0], good[1], good[0]}, 2},
			{slices.Repeat(good, 3), 3},
			{[]api.Vouch{bad[0], good[0]}, 1},
			{[]api.Vouch{good[0], bad[0]}, 1},
			{[]api.Vouch{bad[0], bad[0]}, 0},
			{[]api.Vouch{good[0], bad[1], good[0]}, 1},
			{slices.Concat(bad, good, bad), 3},
			{slices.Concat(slices.Repeat(bad, 30), good), 3},
		} {
			x.Vouches = c.vouches
			a.checks(fmt.Sprint("the vouches ", i), a.cache(c.count), 1, []api.Object{x}, 110, api.OK)
			a.checks(fmt.Sprint("the vouches ", i, ", one more needed"), a.cache(c.count+1), 1, []api.Object{x}, 110, api.ErrTrust)
		}
	}
}

// A server of whose first key nothing is known vouches for nothing, though there are signatures that the key of zeros verifies.
func TestNotaryWithoutAFirstKey(t *testing.T) {
	a := reckoner(t)
	c := a.cache(1)
	c.First[3] = api.Key{}
	x := api.Object{Server: 1, N: 1, Key: run(9)}
	v := api.Vouch{Notary: 3, Sig: api.Sig{1}}
	for x.Until = 1; !a.s.Verify(api.Key{}, vouchText(x, 3), v.Sig); x.Until++ {
		if x.Until > 1000 {
			t.Fatal("the key of zeros verifies nothing")
		}
	}
	x = a.sign(secret(1, 0), x)
	x.Vouches = []api.Vouch{v}
	a.checks("the key of zeros", c, 1, []api.Object{x}, 0, api.ErrTrust)
	a.checks("the key of zeros and another's", c, 1, []api.Object{a.vouched(x, 2)}, 0, api.OK)
	for _, a := range askers(t) {
		c := a.cache(1)
		c.First[3] = api.Key{}
		a.checks("a key that isn't known", c, 1, a.chain(1, 1, 3), 110, api.ErrTrust)
		a.checks("a key that isn't known and another", c, 1, a.chain(1, 1, 3, 0), 110, api.OK)
		// Of the server itself it isn't asked.
		c.First[1] = api.Key{}
		if key, n, e := a.check(c, 1, nil, 0); e != api.OK || key != (api.Key{}) || n != 0 {
			t.Errorf("Check of no objects, without a first key: %x %d %d", key, n, e)
		}
		a.checks("without a first key", c, 1, a.chain(1, 1, 0, 2), 110, api.ErrTrust)
	}
}

func TestHighest(t *testing.T) {
	for _, a := range askers(t) {
		l := a.chain(2, 4)
		for n := range 5 {
			for _, highest := range []byte{0, 1, 2, 3, 4, 5, 128, 255} {
				c := a.cache(0)
				c.Highest = [4]byte{255, 255, highest, 255}
				want := api.OK
				if n < int(highest) {
					want = api.ErrOrder
				}
				a.checks(fmt.Sprint(n, " objects, where ", highest, " were seen"), c, 2, l[:n], 100*uint32(n), want)
			}
		}
	}
}

func TestWhen(t *testing.T) {
	const end = math.MaxUint32
	for _, a := range askers(t) {
		for _, h := range []struct {
			from, until uint32
			holds       []uint32
			not         []uint32
		}{
			{5, 7, []uint32{5, 6}, []uint32{0, 4, 7, 8, end}},
			{0, 1, []uint32{0}, []uint32{1, 2, end}},
			{0, end, []uint32{0, 1, 1 << 31, end - 1}, []uint32{end}},
			{9, 10, []uint32{9}, []uint32{0, 8, 10, 11, end}},
			{0, 0, nil, []uint32{0, 1, end - 1, end}},
			{7, 0, nil, []uint32{0, 6, 7, 8, end - 1, end}},
			{7, 7, nil, []uint32{0, 6, 7, 8, end}},
			{8, 7, nil, []uint32{0, 6, 7, 8, 9, end}},
			{end, end, nil, []uint32{0, end - 1, end}},
			{end - 1, end, []uint32{end - 1}, []uint32{0, end - 2, end}},
			{end, 0, nil, []uint32{0, 1, end - 1, end}},
			{1 << 31, end, []uint32{1 << 31, end - 1}, []uint32{0, 1<<31 - 1, end}},
			{1, 1 << 31, []uint32{1, 1<<31 - 1}, []uint32{0, 1 << 31, end}},
		} {
			x := a.sign(secret(0, 0), api.Object{N: 1, Key: run(3), From: h.from, Until: h.until})
			for _, now := range h.holds {
				a.checks(fmt.Sprint("from ", h.from, " until ", h.until, " at ", now), a.cache(0), 0, []api.Object{x}, now, api.OK)
			}
			for _, now := range h.not {
				a.checks(fmt.Sprint("from ", h.from, " until ", h.until, " at ", now), a.cache(0), 0, []api.Object{x}, now, api.ErrWhen)
			}
		}
		// Of the keys ahead of the last one it isn't asked any more, nor yet.
		l := a.chain(0, 3)
		for now, want := range map[uint32]api.Errno{0: api.ErrWhen, 120: api.ErrWhen, 299: api.ErrWhen, 300: api.OK, 349: api.OK, 350: api.ErrWhen} {
			a.checks(fmt.Sprint("three objects at ", now), a.cache(0), 0, l, now, want)
		}
	}
}

// ErrTrust comes ahead of ErrOrder, that ahead of ErrWhen.
func TestOrderOfCheckErrors(t *testing.T) {
	for _, a := range askers(t) {
		l := a.chain(1, 2, 0)
		bad := with(l, 1, a.object(1, 2))
		for highest, want := range []api.Errno{api.ErrWhen, api.ErrWhen, api.ErrWhen, api.ErrOrder} {
			c := a.cache(1)
			c.Highest[1] = byte(highest)
			a.checks("too late", c, 1, l, 999, want)
			a.checks("too late, and not vouched for", c, 1, bad, 999, api.ErrTrust)
			a.checks("too late, and another server's", c, 2, l, 999, api.ErrTrust)
		}
		c := a.cache(0)
		c.Highest = [4]byte{9, 9, 9, 9}
		a.checks("five", c, 1, a.chain(1, 5), 999, api.ErrTrust)
		a.checks("a server that there isn't", c, 4, nil, 0, api.ErrTrust)
		a.checks("none", c, 1, nil, 0, api.ErrOrder)
	}
}

// Drawn chains, of which something is wrong or nothing is.
func TestDrawnChains(t *testing.T) {
	for _, a := range askers(t) {
		d, seen := drawer(22), map[api.Errno]int{}
		rows := 1500
		if a.s.Terms() == nil {
			rows = 50
		}
		for range rows {
			server := byte(d.below(4))
			c := a.cache(byte(d.below(4)))
			c.Highest[server] = byte(d.below(3))
			if d.below(4) == 0 {
				c.First[d.below(4)] = api.Key{}
			}
			var l []api.Object
			for n := range d.below(4) {
				x := a.object(server, byte(n+1))
				for v := range byte(4) {
					if d.below(5) > 0 {
						x = a.vouched(x, v)
					}
				}
				if d.below(15) == 0 {
					others := otherObjects(x)
					x = others[d.below(len(others))]
				}
				l = append(l, x)
			}
			_, _, e := a.check(c, server, l, 100*uint32(len(l))+uint32(d.below(60)))
			seen[e]++
		}
		if len(seen) != 4 {
			t.Errorf("only these were told: %v", seen)
		}
	}
}

func TestCheckExamples(t *testing.T) {
	for _, a := range askers(t) {
		c := a.cache(0)
		if key, n, e := a.check(c, 1, nil, 0); key != c.First[1] || n != 0 || e != api.OK {
			t.Errorf("no objects: %x %d %d", key, n, e)
		}
		x := api.Object{N: 1, Key: a.signer(run(99)), From: 5, Until: 7}
		a.checks("signed by another key", c, 0, []api.Object{a.sign(run(98), x)}, 5, api.ErrTrust)
		a.checks("From 5, at 4", c, 0, []api.Object{a.sign(secret(0, 0), x)}, 4, api.ErrWhen)
	}
}

// P20.3

func TestSee(t *testing.T) {
	d := drawer(23)
	for server := range 256 {
		c := api.Cache{Need: byte(server), Highest: [4]byte{byte(d.below(256)), 7, 0, 255}}
		for i := range c.First {
			c.First[i] = d.key()
		}
		for n := range 256 {
			want := c
			if server < 4 && n > int(c.Highest[server]) {
				want.Highest[server] = byte(n)
			}
			if got := keydir.See(c, byte(server), byte(n)); got != want {
				t.Fatalf("See(%v, %d, %d): %v, want %v", c, server, n, got, want)
			}
		}
	}
}

// What was seen can't be taken back.
func TestSeenIsNeeded(t *testing.T) {
	for _, a := range askers(t) {
		c, l := a.cache(0), a.chain(1, 3)
		for n := range l {
			key, number, e := a.check(c, 1, l[:n+1], 100*uint32(n)+100)
			a.is("Check", e, api.OK)
			c = keydir.See(keydir.See(c, 1, number), 1, 0)
			a.checks("one less", c, 1, l[:n], 100*uint32(n), api.ErrOrder)
			if key != l[n].Key || c.Highest != ([4]byte{1: byte(n + 1)}) {
				t.Fatalf("Check of %d: %x %v", n+1, key, c.Highest)
			}
		}
	}
}
