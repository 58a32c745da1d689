package ratchet_test

import (
	"bytes"
	"encoding/binary"
	"fmt"
	"reflect"
	"slices"
	"strings"
	"testing"

	"missive/api"
	"missive/ratchet"
	"missive/suite"
	"missive/term"
)

// The chapter's words, put down a second time, and what is asked by them.

// joined is the joined text of the pieces.
func joined(pieces ...[]byte) []byte {
	b := []byte{byte(len(pieces))}
	for _, p := range pieces {
		b = append(append(b, byte(len(p)/256), byte(len(p)%256)), p...)
	}
	return b
}

func number(n uint16) []byte { return binary.BigEndian.AppendUint16(nil, n) }

func flag(set bool) []byte { return map[bool][]byte{false: {0}, true: {1}}[set] }

// headed are a header's bytes; none, if it isn't a first letter's, but says by which keys the session was begun.
func headed(h api.Header) []byte {
	bare := api.Header{Session: h.Session, Ratchet: h.Ratchet, N: h.N, Prev: h.Prev}
	if !h.First && h != bare {
		return nil
	}
	return joined(h.Session[:], flag(h.First), h.Agree[:], h.Signer[:], h.Base[:], number(h.Id), h.Ratchet[:], number(h.N), number(h.Prev))
}

// packed are a session's pieces.
func packed(x api.Session) [][]byte {
	l := [][]byte{
		x.Id[:], x.Root[:], x.Mine[:], flag(x.HasSend), x.Send.Key[:], number(x.Send.N), number(x.Prev), x.Theirs[:],
		flag(x.HasRecv), x.Recv.Key[:], number(x.Recv.N), flag(x.First), x.Agree[:], x.Signer[:], x.Base[:], number(x.Once),
	}
	for _, k := range x.Kept {
		l = append(l, joined(k.Ratchet[:], number(k.N), k.Key[:]))
	}
	return l
}

// split are a joined text's pieces.
func split(b []byte) (pieces [][]byte, ok bool) {
	if len(b) == 0 || b[0] > 64 {
		return nil, false
	}
	count, b := int(b[0]), b[1:]
	for range count {
		if len(b) < 2 {
			return nil, false
		}
		n := int(b[0])*256 + int(b[1])
		if n > 4096 || len(b) < 2+n {
			return nil, false
		}
		pieces, b = append(pieces, b[2:2+n]), b[2+n:]
	}
	return pieces, len(b) == 0
}

// sized tells whether the pieces have just these sizes.
func sized(pieces [][]byte, sizes ...int) bool {
	return slices.EqualFunc(pieces, sizes, func(p []byte, n int) bool { return len(p) == n })
}

// isSession tells whether the bytes are those of a session.
func isSession(b []byte) bool {
	l, ok := split(b)
	if !ok || len(l) < 16 || len(l) > 32 || !sized(l[:16], 32, 32, 32, 1, 32, 2, 2, 32, 1, 32, 2, 1, 32, 32, 32, 2) {
		return false
	}
	for _, p := range l[16:] {
		if k, ok := split(p); !ok || !sized(k, 32, 2, 32) {
			return false
		}
	}
	return l[3][0] < 2 && l[8][0] < 2 && l[11][0] < 2
}

// model does by a suite what the chapter says. Where a step is refused it ends by a panic with the error's number.
type model struct{ s suite.Suite }

func must(holds bool, e api.Errno) {
	if !holds {
		panic(e)
	}
}

// tried tells with which error the steps end.
func tried(steps func()) (e api.Errno) {
	defer func() {
		if r := recover(); r != nil {
			e = r.(api.Errno)
		}
	}()
	steps()
	return api.OK
}

func (m model) begin(id, shared, draw api.Key) (x api.Session) {
	x.Id = id
	x.Root, _ = m.s.Mix('0', shared[:])
	x.HasSend = true
	x.Send.Key, _ = m.s.Mix('1', shared[:])
	x.Mine = m.s.Fresh(draw)
	return x
}

func (m model) join(id, shared, theirs api.Key) (x api.Session) {
	x.Id = id
	x.Root, _ = m.s.Mix('0', shared[:])
	x.HasRecv = true
	x.Recv.Key, _ = m.s.Mix('1', shared[:])
	x.Theirs = theirs
	return x
}

// two makes two keys of the same parts.
func (m model) two(a, b byte, parts ...[]byte) (api.Key, api.Key) {
	k, ok := m.s.Mix(a, parts...)
	l, also := m.s.Mix(b, parts...)
	must(ok && also, api.ErrFull)
	return k, l
}

func (m model) next(c *api.Chain) (letter api.Key) {
	must(c.N != 65535, api.ErrCount)
	letter, c.Key = m.two('M', 'N', c.Key[:])
	c.N++
	return letter
}

func (m model) skip(x *api.Session, to uint16) {
	must(x.Recv.N <= to, api.ErrOld)
	must(int(to)-int(x.Recv.N)+len(x.Kept) <= 16, api.ErrFar)
	for x.Recv.N < to {
		k := api.Kept{Ratchet: x.Theirs, N: x.Recv.N}
		k.Key = m.next(&x.Recv)
		must(at(x.Kept, k.Ratchet, k.N) < 0, api.ErrThere)
		must(len(x.Kept) < 16, api.ErrFull)
		x.Kept = append(slices.Clone(x.Kept), k)
	}
}

// at is where a key is kept, or below 0.
func at(l []api.Kept, ratchet api.Key, n uint16) int {
	for i, k := range l {
		if k.Ratchet == ratchet && k.N == n {
			return i
		}
	}
	return -1
}

func (m model) agree(x *api.Session, row *api.Chain) {
	shared, ok := m.s.Agree(x.Mine, x.Theirs)
	must(ok, api.ErrKey)
	x.Root, row.Key = m.two('R', 'C', x.Root[:], shared[:])
	row.N = 0
}

// sealed goes on with x, and tells what goes out.
func (m model) sealed(x *api.Session, draw api.Key, plain []byte) (h api.Header, body []byte) {
	must(len(plain) <= 1024, api.ErrLong)
	must(x.HasSend || x.HasRecv, api.ErrArg)
	if !x.HasSend {
		x.Mine, x.Prev = m.s.Fresh(draw), x.Send.N
		m.agree(x, &x.Send)
		x.HasSend = true
	}
	h = api.Header{Session: x.Id, First: x.First, Ratchet: m.s.Public(x.Mine), N: x.Send.N, Prev: x.Prev}
	if x.First {
		h.Agree, h.Signer, h.Base, h.Id = x.Agree, x.Signer, x.Base, x.Once
	}
	letter := m.next(&x.Send)
	key, ok := m.s.Mix('K', letter[:], headed(h))
	must(ok, api.ErrFull)
	body, ok = m.s.Seal(key, plain)
	must(ok, api.ErrFull)
	return h, body
}

// found goes on with x, and tells the header's letter key.
func (m model) found(x *api.Session, h api.Header) api.Key {
	must(h.Session == x.Id, api.ErrArg)
	must(headed(h) != nil, api.ErrForm)
	var letter api.Key
	if i := at(x.Kept, h.Ratchet, h.N); i >= 0 {
		letter = x.Kept[i].Key
		x.Kept = slices.Delete(slices.Clone(x.Kept), i, i+1)
	} else {
		if !x.HasRecv || x.Theirs != h.Ratchet {
			must(x.HasSend, api.ErrKey)
			if x.HasRecv && h.Prev > x.Recv.N {
				m.skip(x, h.Prev)
			}
			x.Theirs = h.Ratchet
			m.agree(x, &x.Recv)
			x.HasRecv, x.HasSend, x.First = true, false, false
			x.Agree, x.Signer, x.Base, x.Once = api.Key{}, api.Key{}, api.Key{}, 0
		}
		m.skip(x, h.N)
		letter = m.next(&x.Recv)
	}
	key, ok := m.s.Mix('K', letter[:], headed(h))
	must(ok, api.ErrFull)
	return key
}

func (m model) opened(x *api.Session, h api.Header, body []byte) []byte {
	plain, ok := m.s.Open(m.found(x, h), body)
	must(ok, api.ErrOpen)
	return plain
}

// drawer makes numbers and keys that look like thrown ones, the same each time.
type drawer uint64

func (d *drawer) below(n int) int {
	*d = *d*6364136223846793005 + 1442695040888963407
	return int(uint64(*d) >> 33 % uint64(n))
}

func (d *drawer) text(n int) []byte {
	b := make([]byte, n)
	for i := range b {
		b[i] = byte(d.below(256))
	}
	return b
}

func (d *drawer) key() api.Key { return api.Key(d.text(32)) }

func (d *drawer) flip() bool { return d.below(2) == 1 }

// asker asks the package and the model the same, each by a suite of its own, and holds the answers and the suites' terms against each other.
type asker struct {
	*testing.T
	s suite.Suite
	m model
}

// askers are one of each suite, new.
func askers(t *testing.T) []asker { return []asker{reckoner(t), termer(t)} }

func reckoner(t *testing.T) asker { return asker{t, suite.Real(), model{suite.Real()}} }

func termer(t *testing.T) asker { return asker{t, suite.Free(), model{suite.Free()}} }

// fill leaves room for so many terms.
func (a asker) fill(room int) {
	for _, s := range []suite.Suite{a.s, a.m.s} {
		for i := s.Terms().Len(); i < api.MaxTerms-room; i++ {
			if _, ok := s.Terms().Make(term.Nonce, []byte{9, byte(i), byte(i >> 8)}); !ok {
				a.Fatal("the table is full too early")
			}
		}
	}
}

// count is how many terms there are.
func (a asker) count() int {
	if a.s.Terms() == nil {
		return 0
	}
	return a.s.Terms().Len()
}

// terms asks whether both suites made the same ones in the same order, behind those of a number.
func (a asker) terms(from int) {
	a.Helper()
	if a.s.Terms() == nil {
		return
	}
	if n, want := a.count(), a.m.s.Terms().Len(); n != want {
		a.Fatalf("%d terms, want %d", n, want)
	}
	for i := from + 1; i <= a.count(); i++ {
		kind, parts, _ := a.s.Terms().Of(named(i))
		wantKind, want, _ := a.m.s.Terms().Of(named(i))
		if kind != wantKind || !slices.EqualFunc(parts, want, bytes.Equal) {
			a.Fatalf("the term %d is of %d %q, want %d %q", i, kind, parts, wantKind, want)
		}
	}
}

// made asks for the kinds, and of what is mixed the labels, of the terms behind those of a number.
func (a asker) made(from int, want string) {
	a.Helper()
	if a.s.Terms() == nil {
		return
	}
	got := ""
	for i := from + 1; i <= a.count(); i++ {
		kind, parts, _ := a.s.Terms().Of(named(i))
		if kind == term.Mixed {
			got += string(parts[0])
		} else {
			got += string(" npsogd_l"[kind])
		}
	}
	if got != want {
		a.Fatalf("the terms made are %q, want %q", got, want)
	}
}

// named is the name of the term of that number.
func named(n int) api.Key {
	return api.Key{'t', 'e', 'r', 'm', byte(n >> 24), byte(n >> 16), byte(n >> 8), byte(n)}
}

// copied is the session, in memory of its own, none and empty being one.
func copied(x api.Session) api.Session {
	x.Kept = append([]api.Kept(nil), x.Kept...)
	return x
}

// same tells whether two sessions are alike.
func same(x, y api.Session) bool { return reflect.DeepEqual(copied(x), copied(y)) }

// told is the session as a test tells it: its pieces, those that are short of zeros as far as these.
func told(x api.Session) string {
	var l []string
	for _, p := range packed(x) {
		l = append(l, fmt.Sprintf("%x", bytes.TrimRight(p, "\x00")))
	}
	return strings.Join(l, " ")
}

func (a asker) begin(id, shared, draw api.Key) api.Session {
	a.Helper()
	from := a.count()
	x, want := ratchet.Begin(a.s, id, shared, draw), a.m.begin(id, shared, draw)
	if !same(x, want) {
		a.Fatalf("Begin(%x, %x, %x): %s, want %s", id, shared, draw, told(x), told(want))
	}
	a.terms(from)
	return x
}

func (a asker) join(id, shared, theirs api.Key) api.Session {
	a.Helper()
	from := a.count()
	x, want := ratchet.Join(a.s, id, shared, theirs), a.m.join(id, shared, theirs)
	if !same(x, want) {
		a.Fatalf("Join(%x, %x, %x): %s, want %s", id, shared, theirs, told(x), told(want))
	}
	a.terms(from)
	return x
}

func (a asker) seal(x api.Session, draw api.Key, plain []byte) (api.Session, api.Header, []byte, api.Errno) {
	a.Helper()
	was, from := copied(x), a.count()
	now, h, body, e := ratchet.Seal(a.s, x, draw, plain)
	wantNow := copied(x)
	var wantHeader api.Header
	var wantBody []byte
	want := tried(func() { wantHeader, wantBody = a.m.sealed(&wantNow, draw, plain) })
	if want != api.OK {
		wantNow = was
	}
	if e != want || !same(now, wantNow) || h != wantHeader || !bytes.Equal(body, wantBody) {
		a.Fatalf("Seal(%s, %x, %x): %s %x %x %d, want %s %x %x %d", told(x), draw, plain, told(now), headed(h), body, e, told(wantNow), headed(wantHeader), wantBody, want)
	}
	if !same(x, was) {
		a.Fatalf("Seal changed the session %s: %s", told(was), told(x))
	}
	a.terms(from)
	return now, h, body, e
}

func (a asker) open(x api.Session, h api.Header, body []byte) (api.Session, []byte, api.Errno) {
	a.Helper()
	was, from := copied(x), a.count()
	now, plain, e := ratchet.Open(a.s, x, h, body)
	wantNow := copied(x)
	var wantPlain []byte
	want := tried(func() { wantPlain = a.m.opened(&wantNow, h, body) })
	if want != api.OK {
		wantNow = was
	}
	if e != want || !same(now, wantNow) || !bytes.Equal(plain, wantPlain) {
		a.Fatalf("Open(%s, %+v, %x): %s %x %d, want %s %x %d", told(x), h, body, told(now), plain, e, told(wantNow), wantPlain, want)
	}
	if !same(x, was) {
		a.Fatalf("Open changed the session %s: %s", told(was), told(x))
	}
	a.terms(from)
	return now, plain, e
}

// wrote is what is sealed, which must be done.
func (a asker) wrote(x *api.Session, draw api.Key, plain string) (api.Header, []byte) {
	a.Helper()
	now, h, body, e := a.seal(*x, draw, []byte(plain))
	a.is("Seal", e, api.OK)
	*x = now
	return h, body
}

// reads asks for what is opened.
func (a asker) reads(x *api.Session, h api.Header, body []byte, want string) {
	a.Helper()
	now, plain, e := a.open(*x, h, body)
	a.is("Open", e, api.OK)
	if string(plain) != want {
		a.Fatalf("Open: %q, want %q", plain, want)
	}
	*x = now
}

// refuses asks for an error, beside which the session is as it was.
func (a asker) refuses(what string, x api.Session, h api.Header, body []byte, want api.Errno) {
	a.Helper()
	now, plain, e := a.open(x, h, body)
	a.is(what, e, want)
	if len(plain) != 0 || !same(now, x) {
		a.Fatalf("%s: %q, and the session %s, want %s", what, plain, told(now), told(x))
	}
}

// is asks for an error's number.
func (a asker) is(what string, e, want api.Errno) {
	a.Helper()
	if e != want {
		a.Fatalf("%s: %d, want %d", what, e, want)
	}
}

// body is the text, sealed by the letter key that the header has in x; where it has none the bytes are anybody's.
func (a asker) body(x api.Session, h api.Header, plain string) []byte {
	a.Helper()
	var bodies [2][]byte
	for i, s := range []suite.Suite{a.s, a.m.s} {
		y := copied(x)
		tried(func() { bodies[i], _ = s.Seal(model{s}.found(&y, h), []byte(plain)) })
	}
	if !bytes.Equal(bodies[0], bodies[1]) {
		a.Fatal("the two suites seal unlike bodies")
	}
	return bodies[0]
}

// turned is b with that bit another.
func turned(b []byte, bit int) []byte {
	b = slices.Clone(b)
	b[bit/8] ^= 1 << (bit % 8)
	return b
}

// turnedKey is the key with that bit another.
func turnedKey(k api.Key, bit int) api.Key { return api.Key(turned(k[:], bit)) }

// kept are keys of so many letters of one row, from a number on.
func kept(ratchet api.Key, from uint16, n int) []api.Kept {
	var l []api.Kept
	for i := range n {
		l = append(l, api.Kept{Ratchet: ratchet, N: from + uint16(i), Key: api.Key{byte(i), byte(i >> 8), 7}})
	}
	return l
}

// run is the key of the bytes from n on.
func run(n byte) (k api.Key) {
	for i := range k {
		k[i] = n + byte(i)
	}
	return k
}
