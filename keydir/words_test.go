package keydir_test

import (
	"bytes"
	"encoding/binary"
	"reflect"
	"slices"
	"testing"

	"missive/account"
	"missive/api"
	"missive/keydir"
	"missive/suite"
	"missive/term"
)

// The chapter's words, put down a second time, and what is asked by them.

// joined is the joined text of the pieces.
func joined(pieces ...[]byte) []byte {
	b := []byte{byte(len(pieces))}
	for _, p := range pieces {
		b = append(append(b, byte(len(p)/256), byte(len(p)%256)), p...)
	}
	return b
}

// split are a joined text's pieces.
func split(b []byte) (pieces [][]byte, ok bool) {
	if len(b) == 0 || b[0] > 64 {
		return nil, false
	}
	count, b := int(b[0]), b[1:]
	for range count {
		if len(b) < 2 {
			return nil, false
		}
		n := int(b[0])*256 + int(b[1])
		if n > 4096 || len(b) < 2+n {
			return nil, false
		}
		pieces, b = append(pieces, b[2:2+n]), b[2+n:]
	}
	return pieces, len(b) == 0
}

func two(n uint16) []byte { return binary.BigEndian.AppendUint16(nil, n) }

func four(n uint32) []byte { return binary.BigEndian.AppendUint32(nil, n) }

// objectText is what is signed of a server's key, vouchText of a vouch for it, bundleText of a device's key.
func objectText(x api.Object) []byte {
	return joined([]byte("key"), []byte{x.Server}, []byte{x.N}, x.Key[:], four(x.From), four(x.Until))
}

func vouchText(x api.Object, notary byte) []byte {
	return joined([]byte("vouch"), []byte{notary}, objectText(x))
}

func bundleText(b api.Bundle) []byte {
	return joined([]byte("once"), []byte{b.Device}, b.Agree[:], b.Signer[:], two(b.Id), b.Once[:])
}

// bundleBytes are a bundle's bytes, shelfPieces a shelf's pieces.
func bundleBytes(b api.Bundle) []byte {
	return joined([]byte{b.Device}, b.Agree[:], b.Signer[:], two(b.Id), b.Once[:], b.Sig[:])
}

func shelfPieces(x api.Shelf) [][]byte {
	l := [][]byte{two(x.Last), {}}
	if x.Has {
		l[1] = bundleBytes(x.Fallback)
	}
	for _, b := range x.Left {
		l = append(l, bundleBytes(b))
	}
	return l
}

// isBundle tells whether the bytes are those of a bundle.
func isBundle(b []byte) bool {
	l, ok := split(b)
	if !ok || len(l) != 6 {
		return false
	}
	for i, size := range []int{1, 32, 32, 2, 32, 64} {
		if len(l[i]) != size {
			return false
		}
	}
	return true
}

// isShelf tells whether the bytes are those of a shelf.
func isShelf(b []byte) bool {
	l, ok := split(b)
	if !ok || len(l) < 2 || len(l) > 10 || len(l[0]) != 2 || len(l[1]) > 0 && !isBundle(l[1]) {
		return false
	}
	for _, p := range l[2:] {
		if !isBundle(p) {
			return false
		}
	}
	return true
}

// model does by a suite what the chapter says. Where a step is refused it ends by a panic with the error's number.
type model struct{ s suite.Suite }

func must(holds bool, e api.Errno) {
	if !holds {
		panic(e)
	}
}

// tried tells with which error the steps end.
func tried(steps func()) (e api.Errno) {
	defer func() {
		if r := recover(); r != nil {
			e = r.(api.Errno)
		}
	}()
	steps()
	return api.OK
}

func (m model) sign(secret api.Key, x api.Object) api.Object {
	x.Sig = m.s.Sign(secret, objectText(x))
	return x
}

func (m model) vouch(secret api.Key, x api.Object, notary byte) api.Object {
	v := api.Vouch{Notary: notary, Sig: m.s.Sign(secret, vouchText(x, notary))}
	x.Vouches = slices.Concat(x.Vouches, []api.Vouch{v})
	return x
}

// vouched tells whether that server vouches for the object so that it counts.
func (m model) vouched(c api.Cache, x api.Object, notary byte) bool {
	if notary == x.Server || c.First[notary] == (api.Key{}) {
		return false
	}
	return slices.ContainsFunc(x.Vouches, func(v api.Vouch) bool {
		return v.Notary == notary && m.s.Verify(c.First[notary], vouchText(x, notary), v.Sig)
	})
}

func (m model) check(c api.Cache, server byte, chain []api.Object, now uint32) (key api.Key, n byte) {
	must(server < 4, api.ErrTrust)
	must(len(chain) <= 4, api.ErrTrust)
	key = c.First[server]
	for i, x := range chain {
		must(x.Server == server, api.ErrTrust)
		must(int(x.N) == i+1, api.ErrTrust)
		must(m.s.Verify(key, objectText(x), x.Sig), api.ErrTrust)
		need := int(c.Need)
		for notary := range byte(4) {
			if m.vouched(c, x, notary) {
				need--
			}
		}
		must(need <= 0, api.ErrTrust)
		key = x.Key
	}
	must(len(chain) >= int(c.Highest[server]), api.ErrOrder)
	if len(chain) > 0 {
		last := chain[len(chain)-1]
		must(int64(now) >= int64(last.From) && int64(now) <= int64(last.Until)-1, api.ErrWhen)
	}
	return key, byte(len(chain))
}

func (m model) stock(x *api.Shelf, device byte, agree, signer api.Key, l []api.Bundle) {
	must(len(l) > 0, api.ErrForm)
	must(l[0].Id == 0, api.ErrForm)
	most := x.Last
	for i, b := range l[1:] {
		must(b.Id > x.Last, api.ErrForm)
		for _, ahead := range l[:i+1] {
			must(b.Id > ahead.Id, api.ErrForm)
		}
		most = b.Id
	}
	for _, b := range l {
		must(b.Device == device && b.Agree == agree && b.Signer == signer, api.ErrSign)
		must(m.s.Verify(b.Signer, bundleText(b), b.Sig), api.ErrSign)
	}
	left := slices.Concat(x.Left, l[1:])
	must(len(left) <= 8, api.ErrFull)
	x.Has, x.Fallback, x.Left, x.Last = true, l[0], left, most
}

// drawer makes numbers and keys that look like thrown ones, the same each time.
type drawer uint64

func (d *drawer) below(n int) int {
	*d = *d*6364136223846793005 + 1442695040888963407
	return int(uint64(*d) >> 33 % uint64(n))
}

func (d *drawer) text(n int) []byte {
	b := make([]byte, n)
	for i := range b {
		b[i] = byte(d.below(256))
	}
	return b
}

func (d *drawer) key() api.Key { return api.Key(d.text(32)) }

func (d *drawer) number() uint16 { return uint16(d.below(65536)) }

// bundle is one of any fields.
func (d *drawer) bundle() api.Bundle {
	return api.Bundle{Device: byte(d.below(256)), Agree: d.key(), Signer: d.key(), Id: d.number(), Once: d.key(), Sig: api.Sig(d.text(64))}
}

// shelf is one of any bundles, with so many left.
func (d *drawer) shelf(left int) api.Shelf {
	x := api.Shelf{Last: d.number()}
	if d.below(3) > 0 {
		x.Has, x.Fallback = true, d.bundle()
	}
	for range left {
		x.Left = append(x.Left, d.bundle())
	}
	return x
}

// object is one of any fields, with so many vouches.
func (d *drawer) object(vouches int) api.Object {
	x := api.Object{Server: byte(d.below(6)), N: byte(d.below(6)), Key: d.key(), From: uint32(d.below(1 << 31)), Until: uint32(d.below(1 << 31)), Sig: api.Sig(d.text(64))}
	for range vouches {
		x.Vouches = append(x.Vouches, api.Vouch{Notary: byte(d.below(6)), Sig: api.Sig(d.text(64))})
	}
	return x
}

// asker asks the package and the model the same, each by a suite of its own, and holds the answers and the suites' terms against each other.
type asker struct {
	*testing.T
	s suite.Suite
	m model
}

// askers are one of each suite, new.
func askers(t *testing.T) []asker { return []asker{reckoner(t), termer(t)} }

func reckoner(t *testing.T) asker { return asker{t, suite.Real(), model{suite.Real()}} }

func termer(t *testing.T) asker { return asker{t, suite.Free(), model{suite.Free()}} }

// suites are that of the package and that of the model.
func (a asker) suites() []suite.Suite { return []suite.Suite{a.s, a.m.s} }

// fill leaves room for so many terms.
func (a asker) fill(room int) {
	a.Helper()
	for _, s := range a.suites() {
		for i := s.Terms().Len(); i < api.MaxTerms-room; i++ {
			if _, ok := s.Terms().Make(term.Nonce, []byte{9, byte(i), byte(i >> 8)}); !ok {
				a.Fatal("the table is full too early")
			}
		}
	}
}

// count is how many terms there are.
func (a asker) count() int {
	if a.s.Terms() == nil {
		return 0
	}
	return a.s.Terms().Len()
}

// terms asks whether both suites made the same ones in the same order, behind those of a number, and tells how many.
func (a asker) terms(from int) int {
	a.Helper()
	if a.s.Terms() == nil {
		return 0
	}
	if n, want := a.count(), a.m.s.Terms().Len(); n != want {
		a.Fatalf("%d terms, want %d", n, want)
	}
	for i := from + 1; i <= a.count(); i++ {
		kind, parts, _ := a.s.Terms().Of(named(i))
		wantKind, want, _ := a.m.s.Terms().Of(named(i))
		if kind != wantKind || !slices.EqualFunc(parts, want, bytes.Equal) {
			a.Fatalf("the term %d is of %d %q, want %d %q", i, kind, parts, wantKind, want)
		}
	}
	return a.count() - from
}

// named is the name of the term of that number.
func named(n int) api.Key {
	return api.Key{'t', 'e', 'r', 'm', byte(n >> 24), byte(n >> 16), byte(n >> 8), byte(n)}
}

// stood is the shelf, laid the object, in memory of its own, none and empty being one.
func stood(x api.Shelf) api.Shelf {
	x.Left = append([]api.Bundle(nil), x.Left...)
	return x
}

func laid(x api.Object) api.Object {
	x.Vouches = append([]api.Vouch(nil), x.Vouches...)
	return x
}

// rowed are the objects, in memory of their own.
func rowed(l []api.Object) (row []api.Object) {
	for _, x := range l {
		row = append(row, laid(x))
	}
	return row
}

// same tells whether two shelves are alike, alike whether two objects are.
func same(x, y api.Shelf) bool { return reflect.DeepEqual(stood(x), stood(y)) }

func alike(x, y api.Object) bool { return reflect.DeepEqual(laid(x), laid(y)) }

func (a asker) sign(secret api.Key, x api.Object) api.Object {
	a.Helper()
	was, from := laid(x), a.count()
	y := keydir.Sign(a.s, secret, x)
	if want := a.m.sign(secret, x); !alike(y, want) {
		a.Fatalf("Sign(%x, %v): %v, want %v", secret, x, y, want)
	}
	if !alike(x, was) {
		a.Fatal("Sign changed the object")
	}
	if a.terms(from) > 1 {
		a.Fatal("Sign made more than one term")
	}
	return y
}

func (a asker) vouch(secret api.Key, x api.Object, notary byte) api.Object {
	a.Helper()
	was, from := laid(x), a.count()
	y := keydir.Vouch(a.s, secret, x, notary)
	if want := a.m.vouch(secret, x, notary); !alike(y, want) {
		a.Fatalf("Vouch(%x, %v, %d): %v, want %v", secret, x, notary, y, want)
	}
	if !alike(x, was) {
		a.Fatal("Vouch changed the object")
	}
	if a.terms(from) > 1 {
		a.Fatal("Vouch made more than one term")
	}
	return y
}

func (a asker) check(c api.Cache, server byte, chain []api.Object, now uint32) (api.Key, byte, api.Errno) {
	a.Helper()
	was, from := rowed(chain), a.count()
	key, n, e := keydir.Check(a.s, c, server, chain, now)
	var wantKey api.Key
	var wantN byte
	want := tried(func() { wantKey, wantN = a.m.check(c, server, chain, now) })
	if e != want || key != wantKey || n != wantN {
		a.Fatalf("Check(%v, %d, %v, %d): %x %d %d, want %x %d %d", c, server, chain, now, key, n, e, wantKey, wantN, want)
	}
	if !slices.EqualFunc(chain, was, alike) {
		a.Fatal("Check changed the objects")
	}
	if a.terms(from) > 0 {
		a.Fatal("Check made terms")
	}
	return key, n, e
}

// checks asks for Check's error.
func (a asker) checks(what string, c api.Cache, server byte, chain []api.Object, now uint32, want api.Errno) {
	a.Helper()
	key, n, e := a.check(c, server, chain, now)
	if e != want {
		a.Fatalf("Check, %s: %d, want %d", what, e, want)
	}
	if e != api.OK && (key != api.Key{} || n != 0) {
		a.Fatalf("Check, %s: %d, and beside it %x %d", what, e, key, n)
	}
}

func (a asker) stock(x api.Shelf, device byte, agree, signer api.Key, l []api.Bundle) (api.Shelf, api.Errno) {
	a.Helper()
	was, given, from := stood(x), slices.Clone(l), a.count()
	y, e := keydir.Stock(a.s, x, device, agree, signer, l)
	wantShelf := stood(x)
	want := tried(func() { a.m.stock(&wantShelf, device, agree, signer, l) })
	if e != want || !same(y, wantShelf) {
		a.Fatalf("Stock(%v, %d, %x, %x, %v): %v %d, want %v %d", x, device, agree, signer, l, y, e, wantShelf, want)
	}
	if !same(x, was) || !slices.Equal(l, given) {
		a.Fatal("Stock changed what it was given")
	}
	if a.terms(from) > 0 {
		a.Fatal("Stock made terms")
	}
	return y, e
}

// claim is Claim, by the words.
func claim(t *testing.T, x api.Shelf) (api.Shelf, api.Bundle, bool) {
	t.Helper()
	was := stood(x)
	y, b, ok := keydir.Claim(x)
	want, wantBundle, wantOK := stood(x), api.Bundle{}, true
	switch {
	case len(x.Left) > 0:
		wantBundle = x.Left[0]
		want.Left = want.Left[1:]
	case x.Has:
		wantBundle = x.Fallback
	default:
		wantOK = false
	}
	if ok != wantOK || b != wantBundle || !same(y, want) {
		t.Fatalf("Claim(%v): %v %v %t, want %v %v %t", x, y, b, ok, want, wantBundle, wantOK)
	}
	if !same(x, was) {
		t.Fatal("Claim changed the shelf")
	}
	return y, b, ok
}

// device is an account with so many one-time keys, in both suites; unlike numbers give unlike ones.
func (a asker) device(n byte, keys int) api.Account {
	a.Helper()
	var x [2]api.Account
	for i, s := range a.suites() {
		x[i] = account.New(s, api.Key{1, n}, api.Key{2, n}, api.Key{3, n})
		x[i] = a.more(s, x[i], n, keys)
	}
	return x[0]
}

// more is the account with so many more one-time keys.
func (a asker) more(s suite.Suite, x api.Account, n byte, keys int) api.Account {
	a.Helper()
	var draws []api.Key
	for i := range keys {
		draws = append(draws, api.Key{4, n, byte(i), 0, byte(x.Next), byte(x.Next >> 8)})
	}
	y, e := account.More(s, x, draws)
	if e != api.OK {
		a.Fatal(e)
	}
	return y
}

// bundles are those of the account, which both suites make, with the device's public keys.
func (a asker) bundles(x api.Account, device byte) (agree, signer api.Key, l []api.Bundle) {
	a.Helper()
	for _, s := range a.suites() {
		agree, signer = account.Public(s, x)
		l = account.Bundles(s, x, device)
	}
	return agree, signer, l
}

// resigned is the bundle, signed anew by the secret.
func (a asker) resigned(b api.Bundle, secret api.Key) api.Bundle {
	for _, s := range a.suites() {
		b.Sig = s.Sign(secret, bundleText(b))
	}
	return b
}

// signer is the key by which others verify what the secret signs.
func (a asker) signer(secret api.Key) (k api.Key) {
	for _, s := range a.suites() {
		k = s.Signer(secret)
	}
	return k
}

// is asks for an error's number.
func (a asker) is(what string, e, want api.Errno) {
	a.Helper()
	if e != want {
		a.Fatalf("%s: %d, want %d", what, e, want)
	}
}

// turned is the key with that bit another.
func turned(k api.Key, bit int) api.Key {
	k[bit/8] ^= 1 << (bit % 8)
	return k
}

// run is the key of the bytes from n on.
func run(n byte) (k api.Key) {
	for i := range k {
		k[i] = n + byte(i)
	}
	return k
}
