package account_test

import (
	"bytes"
	"encoding/binary"
	"fmt"
	"reflect"
	"slices"
	"testing"

	"missive/account"
	"missive/api"
	"missive/ratchet"
	"missive/suite"
	"missive/term"
)

// The chapter's words, put down a second time, and what is asked by them.

// joined is the joined text of the pieces.
func joined(pieces ...[]byte) []byte {
	b := []byte{byte(len(pieces))}
	for _, p := range pieces {
		b = append(append(b, byte(len(p)/256), byte(len(p)%256)), p...)
	}
	return b
}

// split are a joined text's pieces.
func split(b []byte) (pieces [][]byte, ok bool) {
	if len(b) == 0 || b[0] > 64 {
		return nil, false
	}
	count, b := int(b[0]), b[1:]
	for range count {
		if len(b) < 2 {
			return nil, false
		}
		n := int(b[0])*256 + int(b[1])
		if n > 4096 || len(b) < 2+n {
			return nil, false
		}
		pieces, b = append(pieces, b[2:2+n]), b[2+n:]
	}
	return pieces, len(b) == 0
}

func number(n uint16) []byte { return binary.BigEndian.AppendUint16(nil, n) }

// packed are an account's pieces.
func packed(x api.Account) [][]byte {
	l := [][]byte{x.Agree[:], x.Sign[:], x.Fallback.Secret[:], number(x.Next)}
	for _, k := range x.Left {
		l = append(l, append(number(k.Id), k.Secret[:]...))
	}
	return l
}

// isAccount tells whether the bytes are those of an account.
func isAccount(b []byte) bool {
	l, ok := split(b)
	if !ok || len(l) < 4 || len(l) > 12 {
		return false
	}
	for i, p := range l {
		if want := []int{32, 32, 32, 2, 34}[min(i, 4)]; len(p) != want {
			return false
		}
	}
	return true
}

// signed is what is signed of a bundle.
func signed(b api.Bundle) []byte {
	return joined([]byte("once"), []byte{b.Device}, b.Agree[:], b.Signer[:], number(b.Id), b.Once[:])
}

// model does by a suite what the chapter says. Where a step is refused it ends by a panic with the error's number.
type model struct{ s suite.Suite }

func must(holds bool, e api.Errno) {
	if !holds {
		panic(e)
	}
}

// tried tells with which error the steps end.
func tried(steps func()) (e api.Errno) {
	defer func() {
		if r := recover(); r != nil {
			e = r.(api.Errno)
		}
	}()
	steps()
	return api.OK
}

// lost tells whether one of the keys is what a full table answers.
func (m model) lost(keys ...api.Key) bool {
	return m.s.Terms() != nil && slices.Contains(keys, api.Key{})
}

func (m model) made(a, b, c api.Key) (x api.Account) {
	x.Agree = m.s.Fresh(a)
	x.Sign = m.s.Fresh(b)
	x.Fallback.Secret = m.s.Fresh(c)
	x.Next = 1
	return x
}

func (m model) public(x api.Account) (agree, signer api.Key) {
	agree = m.s.Public(x.Agree)
	signer = m.s.Signer(x.Sign)
	return agree, signer
}

func (m model) print(agree, signer api.Key) api.Key {
	k, _ := m.s.Mix('F', agree[:], signer[:])
	return k
}

func (m model) more(x *api.Account, draws []api.Key) {
	must(len(x.Left)+len(draws) <= 8, api.ErrFull)
	for i := range draws {
		must(int(x.Next)+i <= 65534, api.ErrCount)
	}
	for _, d := range draws {
		k := m.s.Fresh(d)
		must(!m.lost(k), api.ErrFull)
		x.Left = append(x.Left, api.Once{Id: x.Next, Secret: k})
		x.Next++
	}
}

func (m model) bundle(x api.Account, k api.Once, device byte) api.Bundle {
	b := api.Bundle{Device: device, Id: k.Id}
	b.Agree, b.Signer = m.public(x)
	b.Once = m.s.Public(k.Secret)
	b.Sig = m.s.Sign(x.Sign, signed(b))
	return b
}

func (m model) bundles(x api.Account, device byte) (l []api.Bundle) {
	l = append(l, m.bundle(x, x.Fallback, device))
	for _, k := range x.Left {
		l = append(l, m.bundle(x, k, device))
	}
	return l
}

func (m model) check(b api.Bundle) bool { return m.s.Verify(b.Signer, signed(b), b.Sig) }

// agreed is what a secret and a public key agree on.
func (m model) agreed(secret, public api.Key) []byte {
	k, ok := m.s.Agree(secret, public)
	must(ok, api.ErrKey)
	return k[:]
}

func (m model) begun(x api.Account, b api.Bundle, e, draw api.Key) api.Session {
	must(m.check(b), api.ErrSign)
	secret := m.s.Fresh(e)
	ao := m.agreed(x.Agree, b.Once)
	eb := m.agreed(secret, b.Agree)
	eo := m.agreed(secret, b.Once)
	shared, _ := m.s.Mix('S', ao, eb, eo)
	agree, signer := m.public(x)
	base := m.s.Public(secret)
	id, _ := m.s.Mix('I', agree[:], base[:], b.Once[:])
	y := ratchet.Begin(m.s, id, shared, draw)
	must(!m.lost(secret, shared, agree, signer, base, id, y.Root, y.Send.Key, y.Mine), api.ErrFull)
	y.First, y.Agree, y.Signer, y.Base, y.Once = true, agree, signer, base, b.Id
	return y
}

// used is the secret of the key of a number, which x has no more, unless it is the fallback.
func (m model) used(x *api.Account, id uint16) api.Key {
	if x.Fallback.Id == id {
		return x.Fallback.Secret
	}
	for i, k := range x.Left {
		if k.Id == id {
			x.Left = slices.Delete(slices.Clone(x.Left), i, i+1)
			return k.Secret
		}
	}
	panic(api.ErrKey)
}

func (m model) answered(x *api.Account, h api.Header) api.Session {
	must(h.First, api.ErrArg)
	secret := m.used(x, h.Id)
	ao := m.agreed(secret, h.Agree)
	eb := m.agreed(x.Agree, h.Base)
	eo := m.agreed(secret, h.Base)
	shared, _ := m.s.Mix('S', ao, eb, eo)
	public := m.s.Public(secret)
	id, ok := m.s.Mix('I', h.Agree[:], h.Base[:], public[:])
	must(ok && id == h.Session, api.ErrKey)
	y := ratchet.Join(m.s, id, shared, h.Ratchet)
	must(!m.lost(shared, y.Root, y.Recv.Key), api.ErrFull)
	return y
}

// drawer makes numbers and keys that look like thrown ones, the same each time.
type drawer uint64

func (d *drawer) below(n int) int {
	*d = *d*6364136223846793005 + 1442695040888963407
	return int(uint64(*d) >> 33 % uint64(n))
}

func (d *drawer) text(n int) []byte {
	b := make([]byte, n)
	for i := range b {
		b[i] = byte(d.below(256))
	}
	return b
}

func (d *drawer) key() api.Key { return api.Key(d.text(32)) }

func (d *drawer) number() uint16 { return uint16(d.below(65536)) }

// account is one of any numbers and secrets, with so many one-time keys.
func (d *drawer) account(keys int) api.Account {
	x := api.Account{Agree: d.key(), Sign: d.key(), Fallback: api.Once{Id: d.number(), Secret: d.key()}, Next: d.number()}
	for range keys {
		x.Left = append(x.Left, api.Once{Id: d.number(), Secret: d.key()})
	}
	return x
}

// asker asks the package and the model the same, each by a suite of its own, and holds the answers and the suites' terms against each other.
type asker struct {
	*testing.T
	s suite.Suite
	m model
}

// askers are one of each suite, new.
func askers(t *testing.T) []asker { return []asker{reckoner(t), termer(t)} }

func reckoner(t *testing.T) asker { return asker{t, suite.Real(), model{suite.Real()}} }

func termer(t *testing.T) asker { return asker{t, suite.Free(), model{suite.Free()}} }

// suites are that of the package and that of the model.
func (a asker) suites() []suite.Suite { return []suite.Suite{a.s, a.m.s} }

// fill leaves room for so many terms.
func (a asker) fill(room int) {
	a.Helper()
	for _, s := range a.suites() {
		for i := s.Terms().Len(); i < api.MaxTerms-room; i++ {
			if _, ok := s.Terms().Make(term.Nonce, []byte{9, byte(i), byte(i >> 8)}); !ok {
				a.Fatal("the table is full too early")
			}
		}
	}
}

// count is how many terms there are.
func (a asker) count() int {
	if a.s.Terms() == nil {
		return 0
	}
	return a.s.Terms().Len()
}

// terms asks whether both suites made the same ones in the same order, behind those of a number.
func (a asker) terms(from int) {
	a.Helper()
	if a.s.Terms() == nil {
		return
	}
	if n, want := a.count(), a.m.s.Terms().Len(); n != want {
		a.Fatalf("%d terms, want %d", n, want)
	}
	for i := from + 1; i <= a.count(); i++ {
		kind, parts, _ := a.s.Terms().Of(named(i))
		wantKind, want, _ := a.m.s.Terms().Of(named(i))
		if kind != wantKind || !slices.EqualFunc(parts, want, bytes.Equal) {
			a.Fatalf("the term %d is of %d %q, want %d %q", i, kind, parts, wantKind, want)
		}
	}
}

// made asks for the kinds, and of what is mixed the labels, of the terms behind those of a number.
func (a asker) made(from int, want string) {
	a.Helper()
	if a.s.Terms() == nil {
		return
	}
	got := ""
	for i := from + 1; i <= a.count(); i++ {
		kind, parts, _ := a.s.Terms().Of(named(i))
		if kind == term.Mixed {
			got += string(parts[0])
		} else {
			got += string(" npsogd_l"[kind])
		}
	}
	if got != want {
		a.Fatalf("the terms made are %q, want %q", got, want)
	}
}

// named is the name of the term of that number.
func named(n int) api.Key {
	return api.Key{'t', 'e', 'r', 'm', byte(n >> 24), byte(n >> 16), byte(n >> 8), byte(n)}
}

// copied is the account, in memory of its own, none and empty being one.
func copied(x api.Account) api.Account {
	x.Left = append([]api.Once(nil), x.Left...)
	return x
}

// same tells whether two accounts are alike.
func same(x, y api.Account) bool { return reflect.DeepEqual(copied(x), copied(y)) }

// alike tells whether two sessions are.
func alike(x, y api.Session) bool {
	x.Kept, y.Kept = append([]api.Kept(nil), x.Kept...), append([]api.Kept(nil), y.Kept...)
	return reflect.DeepEqual(x, y)
}

func (a asker) public(x api.Account) (agree, signer api.Key) {
	a.Helper()
	from := a.count()
	agree, signer = account.Public(a.s, x)
	if want, also := a.m.public(x); agree != want || signer != also {
		a.Fatalf("Public(%v): %x %x, want %x %x", x, agree, signer, want, also)
	}
	a.terms(from)
	return agree, signer
}

func (a asker) more(x api.Account, draws []api.Key) (api.Account, api.Errno) {
	a.Helper()
	was, given, from := copied(x), slices.Clone(draws), a.count()
	y, e := account.More(a.s, x, draws)
	wantAccount := copied(x)
	want := tried(func() { a.m.more(&wantAccount, draws) })
	if want != api.OK {
		wantAccount = was
	}
	if e != want || !same(y, wantAccount) {
		a.Fatalf("More(%v, %d draws): %v %d, want %v %d", x, len(draws), y, e, wantAccount, want)
	}
	if !same(x, was) || !slices.Equal(draws, given) {
		a.Fatal("More changed what it was given")
	}
	a.terms(from)
	return y, e
}

func (a asker) bundles(x api.Account, device byte) []api.Bundle {
	a.Helper()
	was, from := copied(x), a.count()
	l := account.Bundles(a.s, x, device)
	if want := a.m.bundles(x, device); !slices.Equal(l, want) {
		a.Fatalf("Bundles(%v, %d): %v, want %v", x, device, l, want)
	}
	if !same(x, was) {
		a.Fatal("Bundles changed the account")
	}
	a.terms(from)
	return l
}

func (a asker) check(b api.Bundle) bool {
	a.Helper()
	from := a.count()
	ok := account.Check(a.s, b)
	if ok != a.m.check(b) {
		a.Fatalf("Check(%v): %t", b, ok)
	}
	a.terms(from)
	return ok
}

func (a asker) begin(x api.Account, b api.Bundle, e, draw api.Key) (api.Session, api.Errno) {
	a.Helper()
	was, from := copied(x), a.count()
	y, why := account.Begin(a.s, x, b, e, draw)
	var wantSession api.Session
	want := tried(func() { wantSession = a.m.begun(x, b, e, draw) })
	if why != want || !alike(y, wantSession) {
		a.Fatalf("Begin(%v, %v, %x, %x): %v %d, want %v %d", x, b, e, draw, y, why, wantSession, want)
	}
	if !same(x, was) {
		a.Fatal("Begin changed the account")
	}
	a.terms(from)
	return y, why
}

func (a asker) answer(x api.Account, h api.Header) (api.Account, api.Session, api.Errno) {
	a.Helper()
	was, from := copied(x), a.count()
	left, y, e := account.Answer(a.s, x, h)
	wantAccount := copied(x)
	var wantSession api.Session
	want := tried(func() { wantSession = a.m.answered(&wantAccount, h) })
	if want != api.OK {
		wantAccount = was
	}
	if e != want || !same(left, wantAccount) || !alike(y, wantSession) {
		a.Fatalf("Answer(%v, %+v): %v %v %d, want %v %v %d", x, h, left, y, e, wantAccount, wantSession, want)
	}
	if !same(x, was) {
		a.Fatal("Answer changed the account")
	}
	a.terms(from)
	return left, y, e
}

// is asks for an error's number.
func (a asker) is(what string, e, want api.Errno) {
	a.Helper()
	if e != want {
		a.Fatalf("%s: %d, want %d", what, e, want)
	}
}

// device is a new account with so many one-time keys; unlike numbers give unlike ones.
func (a asker) device(n byte, keys int) api.Account {
	a.Helper()
	from := a.count()
	x, want := account.New(a.s, api.Key{1, n}, api.Key{2, n}, api.Key{3, n}), a.m.made(api.Key{1, n}, api.Key{2, n}, api.Key{3, n})
	if !same(x, want) {
		a.Fatalf("New: %v, want %v", x, want)
	}
	a.terms(from)
	x, e := a.more(x, draws(n, keys))
	a.is("More", e, api.OK)
	return x
}

// begins is a session that must be begun, and its first letter's header.
func (a asker) begins(x api.Account, b api.Bundle, e, draw api.Key) (api.Session, api.Header) {
	a.Helper()
	y, why := a.begin(x, b, e, draw)
	a.is("Begin", why, api.OK)
	return y, a.first(y)
}

// first is the header of the session's first letter.
func (a asker) first(y api.Session) api.Header {
	a.Helper()
	var hs [2]api.Header
	for i, s := range a.suites() {
		_, h, _, e := ratchet.Seal(s, y, api.Key{}, nil)
		a.is("Seal", e, api.OK)
		hs[i] = h
	}
	if hs[0] != hs[1] {
		a.Fatal("the two suites have unlike headers")
	}
	return hs[0]
}

// refuses asks for an error, beside which the account is as it was.
func (a asker) refuses(what string, x api.Account, h api.Header, want api.Errno) {
	a.Helper()
	left, y, e := a.answer(x, h)
	a.is(what, e, want)
	if !same(left, x) || !alike(y, api.Session{}) {
		a.Fatalf("%s: %v %v", what, left, y)
	}
}

// resigned is the bundle, signed anew by the secret.
func (a asker) resigned(b api.Bundle, secret api.Key) api.Bundle {
	a.Helper()
	var sigs [2]api.Sig
	for i, s := range a.suites() {
		sigs[i] = s.Sign(secret, signed(b))
	}
	if sigs[0] != sigs[1] {
		a.Fatal("the two suites have unlike signatures")
	}
	b.Sig = sigs[0]
	return b
}

// draws are so many keys, unlike for unlike numbers. (As secrets, too, of which the real suite passes over the first bits.)
func draws(n byte, count int) (l []api.Key) {
	for i := range count {
		l = append(l, api.Key{4, n, byte(i), byte(i >> 8), 1})
	}
	return l
}

// turned is the key with that bit another.
func turned(k api.Key, bit int) api.Key {
	k[bit/8] ^= 1 << (bit % 8)
	return k
}

// run is the key of the bytes from n on.
func run(n byte) (k api.Key) {
	for i := range k {
		k[i] = n + byte(i)
	}
	return k
}

// shown is an account, short.
func shown(x api.Account) string {
	return fmt.Sprintf("%x", joined(packed(x)[:4]...)) + fmt.Sprint(len(x.Left))
}
