package account_test

import (
	"slices"
	"testing"

	"missive/account"
	"missive/api"
	"missive/suite"
)

// numbers are such that a key may have, up to the greatest one.
var numbers = []uint16{0, 1, 2, 8, 255, 256, 257, 32768, 65526, 65527, 65533, 65534, 65535}

// secrets are some that are alike but for an end, and drawn ones.
func secrets() []api.Key {
	d := drawer(19)
	return []api.Key{{}, {1}, {31: 1}, {255}, d.key(), named(1), named(2)}
}

// P19.1

func TestNew(t *testing.T) {
	for _, a := range askers(t) {
		for i, k := range secrets() {
			for _, three := range [][3]api.Key{{k, run(1), run(2)}, {run(1), k, run(2)}, {run(1), run(2), k}, {k, k, k}} {
				from := a.count()
				x := account.New(a.s, three[0], three[1], three[2])
				want := a.m.made(three[0], three[1], three[2])
				if !same(x, want) || x.Next != 1 || x.Fallback.Id != 0 || len(x.Left) != 0 {
					t.Fatalf("New(%x): %v, want %v", three, x, want)
				}
				if i == 4 && (x.Agree == x.Sign) != (three[0] == three[1]) {
					t.Fatalf("New(%x): %v", three, x)
				}
				a.terms(from)
			}
		}
	}
	a := termer(t)
	x := account.New(a.s, api.Key{3}, api.Key{2}, api.Key{1})
	a.made(0, "nnn")
	if x.Agree != named(1) || x.Sign != named(2) || x.Fallback.Secret != named(3) {
		t.Errorf("New: %v", x)
	}
	if r := account.New(suite.Real(), api.Key{3}, api.Key{2}, api.Key{1}); r.Agree != (api.Key{3}) || r.Sign != (api.Key{2}) || r.Fallback.Secret != (api.Key{1}) {
		t.Errorf("New: %v", r)
	}
}

func TestPublic(t *testing.T) {
	for _, a := range askers(t) {
		for _, k := range secrets() {
			agree, signer := a.public(api.Account{Agree: k, Sign: run(1)})
			if agree != a.s.Public(k) || signer != a.s.Signer(run(1)) {
				t.Fatalf("Public of %x: %x %x", k, agree, signer)
			}
			a.public(api.Account{Agree: run(1), Sign: k})
			if agree, signer := a.public(api.Account{Agree: k, Sign: k}); agree == signer {
				t.Fatalf("Public of %x twice: %x %x", k, agree, signer)
			}
		}
	}
	a := termer(t)
	a.public(api.Account{Agree: run(1), Sign: run(2), Fallback: api.Once{Secret: run(3)}})
	a.made(0, "pg")
}

func TestPrint(t *testing.T) {
	for _, a := range askers(t) {
		seen := map[api.Key]bool{}
		for i, k := range secrets() {
			for j, l := range secrets() {
				from := a.count()
				p := account.Print(a.s, k, l)
				if p != a.m.print(k, l) || seen[p] {
					t.Fatalf("Print of %d and %d: %x", i, j, p)
				}
				seen[p] = true
				a.terms(from)
			}
		}
		p := account.Print(a.s, run(1), run(2))
		a.m.print(run(1), run(2))
		for bit := range 256 {
			if account.Print(a.s, turned(run(1), bit), run(2)) == p || account.Print(a.s, run(1), turned(run(2), bit)) == p {
				t.Fatalf("another key, by the bit %d, has the same fingerprint", bit)
			}
		}
	}
	a := termer(t)
	account.Print(a.s, run(1), run(2))
	a.made(0, "F")
}

// P19.2

func TestMore(t *testing.T) {
	for _, a := range askers(t) {
		x := a.device(1, 0)
		var want []api.Once
		for i, d := range secrets() {
			y, e := a.more(x, []api.Key{d})
			a.is("More", e, api.OK)
			want = append(want, api.Once{Id: uint16(i + 1), Secret: a.s.Fresh(d)})
			if !slices.Equal(y.Left, want) || y.Next != uint16(i+2) {
				t.Fatalf("More of the draw %d: %v", i, y)
			}
			x = y
		}
		// What was used leaves its number to nobody.
		x.Left = x.Left[3:5]
		y, e := a.more(x, draws(7, 6))
		a.is("More", e, api.OK)
		for i, k := range y.Left {
			if k.Id != uint16(i)+4 && i < 2 || k.Id != uint16(i)+6 && i >= 2 {
				t.Fatalf("More: %v", y)
			}
		}
		y, e = a.more(x, []api.Key{{5}, {5}})
		if e != api.OK || y.Left[2].Secret != y.Left[3].Secret || y.Left[2].Id+1 != y.Left[3].Id {
			t.Fatalf("More of one draw twice: %v %d", y, e)
		}
		y, e = a.more(x, nil)
		if e != api.OK || !same(y, x) {
			t.Fatalf("More of no draws: %v %d", y, e)
		}
	}
	a := termer(t)
	a.more(api.Account{}, draws(1, 3))
	a.made(0, "nnn")
}

// However many keys there are, and whatever numbers they have.
func TestMoreOfTooMany(t *testing.T) {
	for _, a := range askers(t) {
		d := drawer(3)
		for left := range 12 {
			x := d.account(left)
			x.Next = 100
			for n := range 12 {
				y, e := a.more(x, draws(2, n))
				if (e == api.ErrFull) != (left+n > 8) || e != api.ErrFull && (e != api.OK || len(y.Left) != left+n) {
					t.Fatalf("More of %d beside %d: %v %d", n, left, y, e)
				}
			}
			a.is("More of very many", second(a.more(x, draws(2, 300))), api.ErrFull)
			// Ahead of the numbers' end.
			x.Next = 65535
			a.is("More of too many at the end", second(a.more(x, draws(2, 9))), api.ErrFull)
		}
		was := a.count()
		a.more(d.account(8), draws(3, 1))
		if a.count() != was {
			t.Error("what is refused so makes terms")
		}
	}
}

func second(_ api.Account, e api.Errno) api.Errno { return e }

func TestMoreToTheLastNumber(t *testing.T) {
	for _, a := range askers(t) {
		for _, next := range numbers {
			for n := range 9 {
				x := api.Account{Next: next}
				was := a.count()
				y, e := a.more(x, draws(byte(n), n))
				if int(next)+n-1 > 65534 && n > 0 {
					a.is("More beyond the last number", e, api.ErrCount)
					if a.count() != was {
						t.Error("what is refused so makes terms")
					}
					continue
				}
				a.is("More", e, api.OK)
				if len(y.Left) != n || int(y.Next) != int(next)+n || n > 0 && (y.Left[0].Id != next || y.Left[n-1].Id != next+uint16(n-1)) {
					t.Fatalf("More of %d from %d: %v", n, next, y)
				}
			}
		}
	}
}

// Where the table is full no key is kept that would be zeros; what was made stays made.
func TestMoreInAFullTable(t *testing.T) {
	a := termer(t)
	x := a.device(1, 2)
	a.fill(3)
	a.is("More with little room", second(a.more(x, draws(5, 4))), api.ErrFull)
	if a.count() != api.MaxTerms {
		t.Errorf("%d terms", a.count())
	}
	y, e := a.more(x, draws(5, 3))
	if e != api.OK || len(y.Left) != 5 {
		t.Errorf("More of what is made already: %v %d", y, e)
	}
	a.is("More without room", second(a.more(x, draws(6, 1))), api.ErrFull)
	a.is("More of none without room", second(a.more(x, nil)), api.OK)
	y, e = a.more(x, draws(6, 1))
	if y.Left[0].Id++; e != api.ErrFull || x.Left[0].Id != 1 {
		t.Errorf("More without room shares memory with the account: %v %d", x, e)
	}
	if k := account.Print(a.s, run(1), run(2)); k != (api.Key{}) {
		t.Errorf("Print without room: %x", k)
	}
}

// In the real suite a draw of zeros is a secret as any other.
func TestZeroDraws(t *testing.T) {
	a := reckoner(t)
	x, e := a.more(a.device(1, 0), make([]api.Key, 8))
	if e != api.OK || len(x.Left) != 8 {
		t.Fatalf("More of zeros: %v %d", x, e)
	}
	y := account.New(a.s, api.Key{}, api.Key{}, api.Key{})
	z, h := a.begins(y, a.bundles(x, 1)[3], api.Key{}, api.Key{})
	if _, _, e := a.answer(x, h); e != api.OK || z.Mine != (api.Key{}) {
		t.Fatalf("Answer to zeros: %d, %v", e, z)
	}
}

func TestBundles(t *testing.T) {
	for _, a := range askers(t) {
		for _, keys := range []int{0, 1, 2, 8} {
			x := a.device(9, keys)
			for _, device := range []byte{0, 5, 15, 16, 255} {
				l := a.bundles(x, device)
				if len(l) != keys+1 {
					t.Fatalf("%d bundles of %d keys", len(l), keys)
				}
				agree, signer := a.public(x)
				for i, b := range l {
					secret := append([]api.Once{x.Fallback}, x.Left...)[i].Secret
					if b.Device != device || b.Agree != agree || b.Signer != signer || b.Id != uint16(i) || b.Once != a.s.Public(secret) || !a.check(b) {
						t.Fatalf("the bundle %d: %v", i, b)
					}
				}
				if keys == 8 {
					break
				}
			}
		}
		// An account of any numbers, and of more keys than may be.
		d := drawer(5)
		for keys := range 11 {
			x := d.account(keys)
			l := a.bundles(x, byte(d.below(256)))
			if l[0].Id != x.Fallback.Id || keys > 0 && l[keys].Id != x.Left[keys-1].Id {
				t.Fatalf("Bundles of %v: %v", x, l)
			}
		}
	}
}

func TestTermsOfBundles(t *testing.T) {
	a := termer(t)
	x := a.device(9, 2)
	from := a.count()
	a.bundles(x, 1)
	a.made(from, "pgpdpdpd")
	from = a.count()
	a.bundles(x, 1)
	a.made(from, "")
	a.bundles(x, 2)
	a.made(from, "ddd")
	for room := range 9 {
		b := termer(t)
		x := b.device(9, 2)
		b.fill(room)
		l := b.bundles(x, 1)
		for i, want := range []int{4, 6, 8} {
			if b.check(l[i]) != (room >= want) {
				t.Errorf("with room for %d terms the bundle %d is %v", room, i, l[i])
			}
		}
	}
}

// others are the bundle with each of its fields another.
func others(b api.Bundle) (l []api.Bundle) {
	for _, set := range []func(b *api.Bundle){
		func(b *api.Bundle) { b.Device++ },
		func(b *api.Bundle) { b.Agree = turned(b.Agree, 0) },
		func(b *api.Bundle) { b.Agree = turned(b.Agree, 200) },
		func(b *api.Bundle) { b.Signer = turned(b.Signer, 62) },
		func(b *api.Bundle) { b.Signer = b.Agree },
		func(b *api.Bundle) { b.Id++ },
		func(b *api.Bundle) { b.Id += 256 },
		func(b *api.Bundle) { b.Once = turned(b.Once, 100) },
		func(b *api.Bundle) { b.Once = api.Key{} },
		func(b *api.Bundle) { b.Sig[0]++ },
		func(b *api.Bundle) { b.Sig[7]++ },
		func(b *api.Bundle) { b.Sig[63]++ },
		func(b *api.Bundle) { b.Sig = api.Sig{} },
	} {
		other := b
		set(&other)
		l = append(l, other)
	}
	return l
}

func TestCheck(t *testing.T) {
	for _, a := range askers(t) {
		x, y := a.device(1, 2), a.device(2, 2)
		ours, theirs := a.bundles(x, 4), a.bundles(y, 4)
		for i, b := range ours {
			if !a.check(b) {
				t.Fatalf("the bundle %d isn't checked", i)
			}
			for j, other := range others(b) {
				if a.check(other) {
					t.Fatalf("the bundle %d is checked with the change %d", i, j)
				}
			}
			b.Signer = theirs[i].Signer
			if a.check(b) {
				t.Fatal("another one's key is checked")
			}
			// Who signs it anew may say what it likes of the rest.
			b.Device, b.Agree, b.Once, b.Id = 200, run(1), api.Key{}, 65535
			if a.check(b) || !a.check(a.resigned(b, y.Sign)) || a.check(a.resigned(b, x.Sign)) {
				t.Fatal("a bundle that is signed anew")
			}
		}
		if a.check(api.Bundle{}) {
			t.Error("a zero bundle is checked")
		}
		// Another kind of text that has the same in it.
		b := ours[1]
		l := [][]byte{[]byte("key"), {b.Device}, b.Agree[:], b.Signer[:], number(b.Id), b.Once[:]}
		for _, text := range [][]byte{joined(l...), joined(l[1:]...), joined(append(l, nil)...)} {
			for _, s := range a.suites() {
				b.Sig = s.Sign(x.Sign, text)
			}
			if a.check(b) {
				t.Errorf("what is signed under another text is checked")
			}
		}
	}
}
