package keydir_test

import (
	"fmt"
	"slices"
	"testing"

	"missive/account"
	"missive/api"
	"missive/keydir"
)

// P20.4

// stocks asks for Stock's error, beside which the shelf is as it was.
func (a asker) stocks(what string, x api.Shelf, device byte, agree, signer api.Key, l []api.Bundle, want api.Errno) api.Shelf {
	a.Helper()
	y, e := a.stock(x, device, agree, signer, l)
	if e != want {
		a.Fatalf("Stock, %s: %d, want %d", what, e, want)
	}
	if e != api.OK && !same(x, y) {
		a.Fatalf("Stock, %s: %d, and beside it %v", what, e, y)
	}
	return y
}

// numbers are the bundles' numbers.
func numbers(l []api.Bundle) (ids []uint16) {
	for _, b := range l {
		ids = append(ids, b.Id)
	}
	return ids
}

func TestStock(t *testing.T) {
	for _, a := range askers(t) {
		for _, device := range []byte{0, 3, 15, 255} {
			for keys := range 9 {
				agree, signer, l := a.bundles(a.device(device, keys), device)
				x := a.stocks("on an empty shelf", api.Shelf{}, device, agree, signer, l, api.OK)
				if !x.Has || x.Fallback != l[0] || !slices.Equal(x.Left, l[1:]) || int(x.Last) != keys {
					t.Fatalf("Stock of %d keys: %v", keys, x)
				}
				if device == 255 {
					break
				}
			}
		}
	}
}

// What is left stays ahead; the fallback is the newest one.
func TestStockBehindOthers(t *testing.T) {
	for _, a := range askers(t) {
		y := a.device(1, 6)
		agree, signer, l := a.bundles(y, 2)
		x := a.stocks("the first three", api.Shelf{}, 2, agree, signer, l[:4], api.OK)
		x, _, _ = claim(t, x)
		y.Fallback.Secret = run(77)
		_, _, m := a.bundles(y, 2)
		if m[0] == l[0] {
			t.Fatal("the fallback is no other one")
		}
		x = a.stocks("the others", x, 2, agree, signer, slices.Concat(m[:1], l[4:]), api.OK)
		if x.Fallback != m[0] || !slices.Equal(numbers(x.Left), []uint16{2, 3, 4, 5, 6}) || x.Last != 6 {
			t.Fatalf("Stock of the others: %v", x)
		}
		// Of a fallback alone the greatest number is what it was.
		x = a.stocks("the first fallback again", x, 2, agree, signer, l[:1], api.OK)
		if x.Fallback != l[0] || len(x.Left) != 5 || x.Last != 6 {
			t.Fatalf("Stock of a fallback: %v", x)
		}
		a.stocks("what lay there", x, 2, agree, signer, l, api.ErrForm)
		for len(x.Left) > 0 {
			x, _, _ = claim(t, x)
			a.stocks("what lies there, or lay there", x, 2, agree, signer, l, api.ErrForm)
		}
		x = a.stocks("a fallback where nothing is left", x, 2, agree, signer, m[:1], api.OK)
		if x.Last != 6 {
			t.Fatalf("Stock of a fallback: %v", x)
		}
	}
}

// ranked are bundles of these numbers, signed as they are.
func (a asker) ranked(x api.Account, device byte, ids ...uint16) (agree, signer api.Key, l []api.Bundle) {
	a.Helper()
	x.Left = nil
	agree, signer, m := a.bundles(x, device)
	for _, id := range ids {
		b := m[0]
		b.Id = id
		l = append(l, a.resigned(b, x.Sign))
	}
	return agree, signer, l
}

func TestNumbersThatRise(t *testing.T) {
	for _, a := range askers(t) {
		y := a.device(1, 0)
		for i, c := range []struct {
			last uint16
			ids  []uint16
			want api.Errno
		}{
			{0, nil, api.ErrForm},
			{0, []uint16{1}, api.ErrForm},
			{0, []uint16{1, 2}, api.ErrForm},
			{0, []uint16{256}, api.ErrForm},
			{0, []uint16{65535}, api.ErrForm},
			{0, []uint16{0}, api.OK},
			{9, []uint16{0}, api.OK},
			{65535, []uint16{0}, api.OK},
			{0, []uint16{0, 0}, api.ErrForm},
			{9, []uint16{0, 0}, api.ErrForm},
			{0, []uint16{0, 1}, api.OK},
			{0, []uint16{0, 65535}, api.OK},
			{65534, []uint16{0, 65535}, api.OK},
			{65535, []uint16{0, 65535}, api.ErrForm},
			{65535, []uint16{0, 1}, api.ErrForm},
			{1, []uint16{0, 1}, api.ErrForm},
			{1, []uint16{0, 2}, api.OK},
			{2, []uint16{0, 1}, api.ErrForm},
			{256, []uint16{0, 255}, api.ErrForm},
			{255, []uint16{0, 256}, api.OK},
			{0, []uint16{0, 1, 2, 3}, api.OK},
			{0, []uint16{0, 3, 70, 700, 7000}, api.OK},
			{0, []uint16{0, 1, 1}, api.ErrForm},
			{0, []uint16{0, 2, 1}, api.ErrForm},
			{0, []uint16{0, 1, 0}, api.ErrForm},
			{0, []uint16{0, 1, 3, 2}, api.ErrForm},
			{0, []uint16{0, 5, 1, 6}, api.ErrForm},
			{0, []uint16{0, 5, 6, 5}, api.ErrForm},
			{0, []uint16{0, 5, 7, 6}, api.ErrForm},
			{5, []uint16{0, 6, 5}, api.ErrForm},
			{5, []uint16{0, 4, 6}, api.ErrForm},
			{5, []uint16{0, 5, 6}, api.ErrForm},
			{5, []uint16{0, 6, 65535}, api.OK},
			{5, []uint16{6, 0}, api.ErrForm},
			{5, []uint16{0, 6, 7, 8, 9, 10, 11, 12, 13}, api.OK},
			{5, []uint16{0, 6, 7, 8, 9, 10, 11, 12, 13, 14}, api.ErrFull},
		} {
			agree, signer, l := a.ranked(y, 3, c.ids...)
			x := a.stocks(fmt.Sprint("the numbers ", c.ids, " behind ", c.last), api.Shelf{Last: c.last}, 3, agree, signer, l, c.want)
			if c.want == api.OK && x.Last != max(c.last, c.ids[len(c.ids)-1]) {
				t.Fatalf("Stock %d: %v", i, x)
			}
		}
	}
}

func TestStockOfOthersBundles(t *testing.T) {
	for _, a := range askers(t) {
		y, z := a.device(1, 3), a.device(2, 3)
		agree, signer, l := a.bundles(y, 4)
		theirAgree, theirSigner, m := a.bundles(z, 4)
		a.stocks("its own", api.Shelf{}, 4, agree, signer, l, api.OK)
		a.stocks("of another device", api.Shelf{}, 5, agree, signer, l, api.ErrSign)
		a.stocks("of other keys", api.Shelf{}, 4, theirAgree, theirSigner, l, api.ErrSign)
		a.stocks("of another Agree", api.Shelf{}, 4, theirAgree, signer, l, api.ErrSign)
		a.stocks("of another Signer", api.Shelf{}, 4, agree, theirSigner, l, api.ErrSign)
		a.stocks("of zeros", api.Shelf{}, 4, api.Key{}, api.Key{}, l, api.ErrSign)
		for at := range l {
			a.stocks("one of another's", api.Shelf{}, 4, agree, signer, with(l, at, m[at]), api.ErrSign)
			for i, set := range []func(b *api.Bundle){
				func(b *api.Bundle) { b.Device = 5 },
				func(b *api.Bundle) { b.Agree = turned(b.Agree, 70) },
				func(b *api.Bundle) { b.Agree = theirAgree },
				func(b *api.Bundle) { b.Signer = turned(b.Signer, 200) },
				func(b *api.Bundle) { b.Signer = theirSigner },
				func(b *api.Bundle) { b.Once = m[at].Once },
				func(b *api.Bundle) { b.Sig[9]++ },
				func(b *api.Bundle) { b.Sig = api.Sig{} },
				func(b *api.Bundle) { b.Sig = m[at].Sig },
			} {
				b := l[at]
				set(&b)
				a.stocks(fmt.Sprint("the bundle ", at, " with the change ", i), api.Shelf{}, 4, agree, signer, with(l, at, b), api.ErrSign)
				// Signed anew it is right just where the change is none of whose it is.
				if want := map[bool]api.Errno{true: api.OK, false: api.ErrSign}[i >= 5]; i != 4 {
					a.stocks(fmt.Sprint("the bundle ", at, " with the change ", i, ", signed anew"), api.Shelf{}, 4, agree, signer, with(l, at, a.resigned(b, y.Sign)), want)
				} else {
					a.stocks("signed by another one", api.Shelf{}, 4, agree, signer, with(l, at, a.resigned(b, z.Sign)), api.ErrSign)
				}
			}
			b := l[at]
			b.Id += 100
			a.stocks("another number", api.Shelf{}, 4, agree, signer, with(l, at, b), map[int]api.Errno{0: api.ErrForm, 1: api.ErrForm, 2: api.ErrForm, 3: api.ErrSign}[at])
		}
	}
}

// However many are left, and come.
func TestStockOfTooMany(t *testing.T) {
	for _, a := range askers(t) {
		d := drawer(24)
		y := a.device(1, 0)
		ids := []uint16{0, 1001, 1002, 1003, 1004, 1005, 1006, 1007, 1008, 1009, 1010}
		agree, signer, l := a.ranked(y, 4, ids...)
		for left := range 11 {
			for n := range l {
				if a.s.Terms() == nil && (left+n < 7 || left+n > 9) {
					continue
				}
				x := d.shelf(left)
				x.Last = 1000
				want := api.OK
				if left+n > 8 {
					want = api.ErrFull
				}
				x = a.stocks(fmt.Sprint(n, " beside ", left), x, 4, agree, signer, l[:n+1], want)
				if want == api.OK && (len(x.Left) != left+n || int(x.Last) != 1000+n) {
					t.Fatalf("Stock of %d beside %d: %v", n, left, x)
				}
			}
		}
	}
}

// ErrForm comes ahead of ErrSign, that ahead of ErrFull; and of all bundles ahead of the next error.
func TestOrderOfStockErrors(t *testing.T) {
	for _, a := range askers(t) {
		y := a.device(1, 0)
		agree, signer, l := a.ranked(y, 4, 0, 1, 2, 3, 4, 5, 6, 7, 8, 9)
		a.stocks("too many", api.Shelf{}, 4, agree, signer, l, api.ErrFull)
		for at := range l {
			b := l[at]
			b.Sig[5]++
			a.stocks("too many, one of them spoilt", api.Shelf{}, 4, agree, signer, with(l, at, b), api.ErrSign)
			b.Id = 0
			if at > 0 {
				a.stocks("too many, one of them another 0", api.Shelf{}, 4, agree, signer, with(l, at, b), api.ErrForm)
			}
		}
		a.stocks("too many, of another one", api.Shelf{}, 5, agree, signer, l, api.ErrSign)
		a.stocks("too many, of another one, which lay there", api.Shelf{Last: 1}, 5, agree, signer, l, api.ErrForm)
		a.stocks("nothing, where too many are", api.Shelf{Left: make([]api.Bundle, 20)}, 5, agree, signer, nil, api.ErrForm)
		a.stocks("a fallback, where too many are", api.Shelf{Left: make([]api.Bundle, 9)}, 4, agree, signer, l[:1], api.ErrFull)
		a.stocks("a fallback, where all are", api.Shelf{Left: make([]api.Bundle, 8)}, 4, agree, signer, l[:1], api.OK)
		bad := l[9]
		bad.Device = 5
		a.stocks("the last one of another", api.Shelf{}, 4, agree, signer, []api.Bundle{l[0], bad}, api.ErrSign)
		twice := slices.Concat(l[:1], []api.Bundle{bad, l[9]})
		a.stocks("one of another, and its number again", api.Shelf{}, 4, agree, signer, twice, api.ErrForm)
		a.stocks("very many", api.Shelf{}, 4, agree, signer, slices.Repeat(l, 100), api.ErrForm)
	}
}

// A fallback of any shelf gives way to the new one.
func TestStockGivesAFallback(t *testing.T) {
	for _, a := range askers(t) {
		d := drawer(25)
		agree, signer, l := a.bundles(a.device(1, 1), 4)
		for _, x := range []api.Shelf{{}, {Has: true}, {Fallback: d.bundle()}, {Has: true, Fallback: d.bundle()}} {
			x = a.stocks("a fallback", x, 4, agree, signer, l, api.OK)
			if !x.Has || x.Fallback != l[0] {
				t.Fatalf("Stock: %v", x)
			}
		}
	}
}

func TestClaim(t *testing.T) {
	d := drawer(26)
	for left := range 12 {
		for range 6 {
			x := d.shelf(left)
			l := x.Left
			for i := range l {
				y, b, ok := claim(t, x)
				if !ok || b != l[i] || !slices.Equal(y.Left, l[i+1:]) || y.Has != x.Has || y.Fallback != x.Fallback || y.Last != x.Last {
					t.Fatalf("Claim(%v): %v %v %t", x, y, b, ok)
				}
				x = y
			}
			for range 3 {
				y, b, ok := claim(t, x)
				if ok != x.Has || b != x.Fallback || !same(x, y) {
					t.Fatalf("Claim(%v): %v %v %t", x, y, b, ok)
				}
				x = y
			}
		}
	}
	for _, x := range []api.Shelf{{}, {Last: 7}, {Fallback: d.bundle(), Last: 9}, {Left: []api.Bundle{}}} {
		if y, b, ok := claim(t, x); ok || b != (api.Bundle{}) || !same(x, y) {
			t.Errorf("Claim(%v): %v %v %t", x, y, b, ok)
		}
	}
	if _, b, ok := claim(t, api.Shelf{Has: true}); !ok || b != (api.Bundle{}) {
		t.Errorf("Claim of a fallback of zeros: %v %t", b, ok)
	}
}

func TestShelfExample(t *testing.T) {
	for _, a := range askers(t) {
		agree, signer, l := a.bundles(a.device(1, 2), 3)
		x := a.stocks("0, 1, 2", api.Shelf{}, 3, agree, signer, l, api.OK)
		for i, want := range []uint16{1, 2, 0, 0} {
			y, b, ok := claim(t, x)
			if !ok || b != l[want] || b.Id != want {
				t.Fatalf("the claim %d: %v %t", i, b, ok)
			}
			x = y
		}
	}
}

// P20.6

// shelving is a device and its server's shelf, and what was claimed of that.
type shelving struct {
	asker
	x       api.Account
	shelf   api.Shelf
	up      uint16
	claimed map[uint16]int
	refused map[api.Errno]int
}

// offered are the device's bundles that the server hasn't, and now and then what is no more to be had, or out of its place.
func (v *shelving) offered(d *drawer) (agree, signer api.Key, l []api.Bundle) {
	agree, signer = account.Public(v.s, v.x)
	for _, b := range account.Bundles(v.s, v.x, 5) {
		if b.Id == 0 || b.Id > v.up || d.below(20) == 0 {
			l = append(l, b)
		}
	}
	switch d.below(8) {
	case 0:
		i, j := d.below(len(l)), d.below(len(l))
		l[i], l[j] = l[j], l[i]
	case 1:
		l = append(l, l[d.below(len(l))])
	case 2:
		l[d.below(len(l))].Sig[0]++
	}
	return agree, signer, l
}

// stocked puts bundles onto the shelf, if they may be.
func (v *shelving) stocked(d *drawer) {
	v.Helper()
	agree, signer, l := v.offered(d)
	was, given := v.shelf, slices.Clone(l)
	y, e := keydir.Stock(v.s, v.shelf, 5, agree, signer, l)
	v.refused[e]++
	if e == api.OK {
		v.up = max(v.up, given[len(given)-1].Id)
	} else if !same(y, was) {
		v.Fatalf("Stock: %d, and beside it %v", e, y)
	}
	v.shelf = y
}

// handedOut claims a key, which mustn't have been claimed.
func (v *shelving) handedOut() {
	v.Helper()
	y, b, ok := claim(v.T, v.shelf)
	v.shelf = y
	if !ok {
		return
	}
	if v.claimed[b.Id]++; b.Id != 0 && v.claimed[b.Id] > 1 {
		v.Fatalf("the number %d was claimed twice", b.Id)
	}
	// The device has that one no more.
	v.x.Left = slices.DeleteFunc(slices.Clone(v.x.Left), func(k api.Once) bool { return k.Id == b.Id })
}

// Whatever is put onto a shelf, and however often it is written and read again.
func TestNoNumberIsClaimedTwice(t *testing.T) {
	for seed := range drawer(8) {
		a := termer(t)
		v := shelving{asker: a, x: a.device(1, 3), claimed: map[uint16]int{}, refused: map[api.Errno]int{}}
		d := 100 + seed
		for i := range 500 {
			switch d.below(4) {
			case 0:
				if n := d.below(3); len(v.x.Left)+n <= 8 {
					v.x = a.more(v.s, v.x, byte(i), n)
				}
			case 1:
				v.stocked(&d)
			case 2:
				v.handedOut()
			case 3:
				b, ok := keydir.Pack(v.shelf)
				y, also := keydir.Unpack(b)
				if !ok || !also || !same(v.shelf, y) {
					t.Fatalf("Unpack of Pack(%v): %v %t %t", v.shelf, y, ok, also)
				}
				v.shelf = y
			}
		}
		if len(v.claimed) < 20 || v.claimed[0] < 5 || v.refused[api.OK] < 20 || v.refused[api.ErrForm] < 5 || v.refused[api.ErrSign] < 3 {
			t.Errorf("claimed %v, stocked %v", v.claimed, v.refused)
		}
	}
}

// A number that is gone can't be brought again by whoever stocks, the device itself neither.
func TestStockOfEachNumberAgain(t *testing.T) {
	for _, a := range askers(t) {
		y := a.device(1, 3)
		agree, signer, l := a.bundles(y, 4)
		x := a.stocks("all", api.Shelf{}, 4, agree, signer, l, api.OK)
		for range 5 {
			for i := 1; i < len(l); i++ {
				a.stocks("one again", x, 4, agree, signer, []api.Bundle{l[0], l[i]}, api.ErrForm)
			}
			x, _, _ = claim(t, x)
		}
		if !account.Check(a.s, l[1]) {
			t.Error("the bundle itself isn't checked")
		}
	}
}
