package chain_test

import (
	"crypto/hmac"
	"crypto/sha256"
	"slices"
	"testing"

	"missive/api"
	"missive/chain"
	"missive/suite"
	"missive/term"
)

// The chapter's words, put down a second time, and what is asked by them.

// joined is the joined text of the pieces.
func joined(pieces ...[]byte) []byte {
	b := []byte{byte(len(pieces))}
	for _, p := range pieces {
		b = append(b, byte(len(p)/256), byte(len(p)%256))
		b = append(b, p...)
	}
	return b
}

// named is the name of the term of that number.
func named(n int) api.Key {
	return api.Key{'t', 'e', 'r', 'm', byte(n >> 24), byte(n >> 16), byte(n >> 8), byte(n)}
}

// model is what a suite should mix: of a free one the terms that were mixed, and how many there are in all.
type model struct {
	free  bool
	count int
	terms map[string]int
}

func (m *model) mix(label byte, parts ...api.Key) (api.Key, bool) {
	var pieces [][]byte
	for _, p := range parts {
		pieces = append(pieces, p[:])
	}
	if !m.free {
		h := hmac.New(sha256.New, []byte{label})
		h.Write(joined(pieces...))
		return api.Key(h.Sum(nil)), true
	}
	text := string(label) + string(joined(pieces...))
	if m.terms[text] == 0 {
		if m.count == 65535 {
			return api.Key{}, false
		}
		m.count++
		m.terms[text] = m.count
	}
	return named(m.terms[text]), true
}

func (m *model) root(root, shared api.Key) (api.Key, api.Key, bool) {
	next, ok := m.mix('R', root, shared)
	if !ok {
		return api.Key{}, api.Key{}, false
	}
	row, ok := m.mix('C', root, shared)
	if !ok {
		return api.Key{}, api.Key{}, false
	}
	return next, row, true
}

func (m *model) next(c api.Chain) (api.Chain, api.Key, api.Errno) {
	if c.N == 65535 {
		return api.Chain{}, api.Key{}, api.ErrCount
	}
	letter, ok := m.mix('M', c.Key)
	if !ok {
		return api.Chain{}, api.Key{}, api.ErrFull
	}
	behind, ok := m.mix('N', c.Key)
	if !ok {
		return api.Chain{}, api.Key{}, api.ErrFull
	}
	return api.Chain{Key: behind, N: c.N + 1}, letter, api.OK
}

func keep(l []api.Kept, x api.Kept) ([]api.Kept, api.Errno) {
	for _, y := range l {
		if y.Ratchet == x.Ratchet && y.N == x.N {
			return nil, api.ErrThere
		}
	}
	if len(l) >= 16 {
		return nil, api.ErrFull
	}
	return append(slices.Clone(l), x), api.OK
}

func take(l []api.Kept, ratchet api.Key, n uint16) ([]api.Kept, api.Key, bool) {
	for i, x := range l {
		if x.Ratchet == ratchet && x.N == n {
			return slices.Delete(slices.Clone(l), i, i+1), x.Key, true
		}
	}
	return l, api.Key{}, false
}

func (m *model) skip(c api.Chain, ratchet api.Key, to uint16, l []api.Kept) (api.Chain, []api.Kept, api.Errno) {
	if c.N > to {
		return c, l, api.ErrOld
	}
	if int(to)-int(c.N)+len(l) > 16 {
		return c, l, api.ErrFar
	}
	row, kept := c, l
	for row.N != to {
		behind, letter, e := m.next(row)
		if e != api.OK {
			return c, l, e
		}
		if kept, e = keep(kept, api.Kept{Ratchet: ratchet, N: row.N, Key: letter}); e != api.OK {
			return c, l, e
		}
		row = behind
	}
	return row, kept, api.OK
}

// drawer makes numbers and keys that look like thrown ones, the same each time.
type drawer uint64

func (d *drawer) below(n int) int {
	*d = *d*6364136223846793005 + 1442695040888963407
	return int(uint64(*d) >> 33 % uint64(n))
}

func (d *drawer) key() (k api.Key) {
	for i := range k {
		k[i] = byte(d.below(256))
	}
	return k
}

// asker asks the package and the model the same, and holds the answers against each other.
type asker struct {
	*testing.T
	s suite.Suite
	m *model
}

// askers are one of each suite, new.
func askers(t *testing.T) []asker {
	return []asker{{t, suite.Real(), &model{}}, free(t)}
}

func free(t *testing.T) asker {
	return asker{t, suite.Free(), &model{free: true, terms: map[string]int{}}}
}

// nearlyFull is an asker of a free suite in whose table just so many terms have room yet.
func nearlyFull(t *testing.T, room int) asker {
	a := free(t)
	a.fill(room)
	return a
}

// fill leaves room for so many terms.
func (a asker) fill(room int) {
	for i := 0; a.m.count < api.MaxTerms-room; i++ {
		if _, ok := a.s.Terms().Make(term.Nonce, []byte{byte(i), byte(i >> 8)}); !ok {
			a.Fatal("the table is full too early")
		}
		a.m.count++
	}
}

// terms asks whether the suite has just the terms that it should have.
func (a asker) terms() {
	a.Helper()
	if !a.m.free {
		return
	}
	if n := a.s.Terms().Len(); n != a.m.count {
		a.Fatalf("%d terms, want %d", n, a.m.count)
	}
}

// each asks for each term that was mixed.
func (a asker) each() {
	a.Helper()
	for text, n := range a.m.terms {
		kind, parts, ok := a.s.Terms().Of(named(n))
		if !ok || kind != term.Mixed || string(parts[0]) != text[:1] || string(joined(parts[1:]...)) != text[1:] {
			a.Fatalf("the term %d is of %d %q, want %q", n, kind, parts, text)
		}
	}
}

func (a asker) root(root, shared api.Key) (api.Key, api.Key, bool) {
	a.Helper()
	next, row, ok := chain.Root(a.s, root, shared)
	wantNext, wantRow, want := a.m.root(root, shared)
	if next != wantNext || row != wantRow || ok != want {
		a.Fatalf("Root(%x, %x): %x %x %t, want %x %x %t", root, shared, next, row, ok, wantNext, wantRow, want)
	}
	a.terms()
	return next, row, ok
}

func (a asker) next(c api.Chain) (api.Chain, api.Key, api.Errno) {
	a.Helper()
	behind, letter, e := chain.Next(a.s, c)
	wantBehind, wantLetter, want := a.m.next(c)
	if behind != wantBehind || letter != wantLetter || e != want {
		a.Fatalf("Next(%v): %v %x %d, want %v %x %d", c, behind, letter, e, wantBehind, wantLetter, want)
	}
	a.terms()
	return behind, letter, e
}

func (a asker) keep(l []api.Kept, x api.Kept) ([]api.Kept, api.Errno) {
	a.Helper()
	got, e := chain.Keep(l, x)
	wantList, want := keep(l, x)
	if !slices.Equal(got, wantList) || e != want {
		a.Fatalf("Keep(%v, %v): %v %d, want %v %d", l, x, got, e, wantList, want)
	}
	return got, e
}

func (a asker) take(l []api.Kept, ratchet api.Key, n uint16) ([]api.Kept, api.Key, bool) {
	a.Helper()
	got, key, ok := chain.Take(l, ratchet, n)
	wantList, wantKey, want := take(l, ratchet, n)
	if !slices.Equal(got, wantList) || key != wantKey || ok != want {
		a.Fatalf("Take(%v, %x, %d): %v %x %t, want %v %x %t", l, ratchet, n, got, key, ok, wantList, wantKey, want)
	}
	return got, key, ok
}

func (a asker) skip(c api.Chain, ratchet api.Key, to uint16, l []api.Kept) (api.Chain, []api.Kept, api.Errno) {
	a.Helper()
	row, got, e := chain.Skip(a.s, c, ratchet, to, l)
	wantRow, wantList, want := a.m.skip(c, ratchet, to, l)
	if row != wantRow || !slices.Equal(got, wantList) || e != want {
		a.Fatalf("Skip(%v, %x, %d, %v): %v %v %d, want %v %v %d", c, ratchet, to, l, row, got, e, wantRow, wantList, want)
	}
	a.terms()
	return row, got, e
}

// is asks for an error's number.
func (a asker) is(what string, e, want api.Errno) {
	a.Helper()
	if e != want {
		a.Fatalf("%s: %d, want %d", what, e, want)
	}
}

// turned is the key with that bit another.
func turned(k api.Key, bit int) api.Key {
	k[bit/8] ^= 1 << (bit % 8)
	return k
}

// kept are keys of so many letters of one row, from a number on.
func kept(ratchet api.Key, from uint16, n int) []api.Kept {
	var l []api.Kept
	for i := range n {
		l = append(l, api.Kept{Ratchet: ratchet, N: from + uint16(i), Key: api.Key{byte(i), byte(i >> 8), 7}})
	}
	return l
}
