package client_test

import (
	"bytes"
	"fmt"
	"slices"
	"testing"

	"missive/api"
	"missive/client"
	"missive/suite"
	"missive/term"
)

// What is asked of the package, and held against the words.

// stood is the device, in memory of its own, none and empty being one.
func stood(c api.Client) api.Client {
	c.Account.Left, c.Doing, c.Again = copied(c.Account.Left), copied(c.Doing), copied(c.Again)
	c.Peers = row(c.Peers, func(p api.Peer) api.Peer {
		p.Sessions, p.Out, p.Held = row(p.Sessions, kept), row(p.Out, said), row(p.Held, said)
		return p
	})
	return c
}

func copied[T any](l []T) []T { return append([]T(nil), l...) }

// row are the things, each in memory of its own.
func row[T any](l []T, lay func(T) T) (m []T) {
	for _, x := range l {
		m = append(m, lay(x))
	}
	return m
}

func kept(x api.Session) api.Session {
	x.Kept = copied(x.Kept)
	return x
}

func said(x api.Said) api.Said {
	x.Body = copied(x.Body)
	return x
}

func toldOf(x api.Heard) api.Heard {
	x.Said = said(x.Said)
	return x
}

func changed(c api.Change) api.Change {
	c.Value = copied(c.Value)
	return c
}

// differs tells in what two devices are unlike: in nothing, if they are alike.
func differs(c, d api.Client) string {
	x, y := c.Account, d.Account
	switch {
	case x.Agree != y.Agree || x.Sign != y.Sign || x.Fallback != y.Fallback || x.Next != y.Next || !slices.Equal(x.Left, y.Left):
		return fmt.Sprintf("the account: %v, %v", x, y)
	case c.Device != d.Device || c.Cache != d.Cache:
		return fmt.Sprintf("the device: %d %v, %d %v", c.Device, c.Cache, d.Device, d.Cache)
	case c.Seq != d.Seq || c.Synced != d.Synced || c.Since != d.Since || c.Up != d.Up || c.Known != d.Known:
		return fmt.Sprintf("its state: %d %t %d %d %t, %d %t %d %d %t", c.Seq, c.Synced, c.Since, c.Up, c.Known, d.Seq, d.Synced, d.Since, d.Up, d.Known)
	case !bytes.Equal(c.Doing, d.Doing):
		return fmt.Sprintf("what it is doing: %x, %x", c.Doing, d.Doing)
	case !bytes.Equal(c.Again, d.Again):
		return fmt.Sprintf("what it does again: %x, %x", c.Again, d.Again)
	case len(c.Peers) != len(d.Peers):
		return fmt.Sprintf("its peers: %d, %d", len(c.Peers), len(d.Peers))
	}
	for i, p := range c.Peers {
		if s := peerDiffers(p, d.Peers[i]); s != "" {
			return fmt.Sprintf("the peer %d, %s", i, s)
		}
	}
	return ""
}

func peerDiffers(p, q api.Peer) string {
	switch {
	case p.Device != q.Device || p.Print != q.Print:
		return fmt.Sprintf("who it is: %d %x, %d %x", p.Device, p.Print, q.Device, q.Print)
	case p.Told != q.Told || p.Asked != q.Asked || p.Last != q.Last:
		return fmt.Sprintf("its numbers: %d %t %d, %d %t %d", p.Told, p.Asked, p.Last, q.Told, q.Asked, q.Last)
	case !slices.EqualFunc(p.Sessions, q.Sessions, sameSession):
		return fmt.Sprintf("the sessions: %v, %v", p.Sessions, q.Sessions)
	case !slices.EqualFunc(p.Out, q.Out, sameSaid):
		return fmt.Sprintf("what waits: %v, %v", p.Out, q.Out)
	case !slices.EqualFunc(p.Held, q.Held, sameSaid):
		return fmt.Sprintf("what is held: %v, %v", p.Held, q.Held)
	}
	return ""
}

func sameSession(x, y api.Session) bool {
	same := slices.Equal(x.Kept, y.Kept) && x.Id == y.Id && x.Root == y.Root && x.Mine == y.Mine && x.Theirs == y.Theirs
	same = same && x.HasSend == y.HasSend && x.HasRecv == y.HasRecv && x.Send == y.Send && x.Recv == y.Recv && x.Prev == y.Prev
	return same && x.First == y.First && x.Agree == y.Agree && x.Signer == y.Signer && x.Base == y.Base && x.Once == y.Once
}

func sameSaid(x, y api.Said) bool { return x.N == y.N && bytes.Equal(x.Body, y.Body) }

func sameHeard(x, y api.Heard) bool { return x.From == y.From && sameSaid(x.Said, y.Said) }

func sameRows(l, m []api.Change) bool {
	return slices.EqualFunc(l, m, func(r, s api.Change) bool {
		return r.Name == s.Name && r.Gone == s.Gone && bytes.Equal(r.Value, s.Value)
	})
}

func sameTexts(l, m [][]byte) bool { return slices.EqualFunc(l, m, bytes.Equal) }

// asker asks the package and the model the same, each by a suite of its own, and holds the answers and the suites' terms against each other.
type asker struct {
	*testing.T
	s, m suite.Suite
}

// askers are one of each suite, new; where there is little time the free one alone.
func askers(t *testing.T) []asker {
	if testing.Short() {
		return []asker{termer(t)}
	}
	return []asker{reckoner(t), termer(t)}
}

func reckoner(t *testing.T) asker { return asker{t, suite.Real(), suite.Real()} }

func termer(t *testing.T) asker { return asker{t, suite.Free(), suite.Free()} }

// both is what is made by both suites, if that leaves traces in them.
func both[T any](a asker, make func(s suite.Suite) T) T {
	if a.m.Terms() != nil {
		make(a.m)
	}
	return make(a.s)
}

// fill leaves room for so many terms.
func (a asker) fill(room int) {
	a.Helper()
	for _, s := range []suite.Suite{a.s, a.m} {
		for i := s.Terms().Len(); i < api.MaxTerms-room; i++ {
			if _, ok := s.Terms().Make(term.Nonce, []byte{9, byte(i), byte(i >> 8)}); !ok {
				a.Fatal("the table is full too early")
			}
		}
	}
}

// count is how many terms there are.
func (a asker) count() int {
	if a.s.Terms() == nil {
		return 0
	}
	return a.s.Terms().Len()
}

// terms asks whether both suites made the same ones in the same order, behind those of a number.
func (a asker) terms(from int) {
	a.Helper()
	if a.s.Terms() == nil {
		return
	}
	if n, want := a.count(), a.m.Terms().Len(); n != want {
		a.Fatalf("%d terms, want %d", n, want)
	}
	for i := from + 1; i <= a.count(); i++ {
		kind, parts, _ := a.s.Terms().Of(named(i))
		wantKind, want, _ := a.m.Terms().Of(named(i))
		if kind != wantKind || !sameTexts(parts, want) {
			a.Fatalf("the term %d is of %d %q, want %d %q", i, kind, parts, wantKind, want)
		}
	}
}

// named is the name of the term of that number.
func named(n int) api.Key {
	return api.Key{'t', 'e', 'r', 'm', byte(n >> 24), byte(n >> 16), byte(n >> 8), byte(n)}
}

// done is what a call answers.
type done struct {
	c     api.Client
	n     uint16
	out   [][]byte
	heard []api.Heard
	e     api.Errno
}

// compare holds what a call answers against the model's, and asks whether the device that was handed in is as it was.
func (a asker) compare(what string, c, was api.Client, d api.Key, from int, got done, steps func(m *model)) {
	a.Helper()
	if s := differs(c, was); s != "" {
		a.Fatalf("%s changed %s", what, s)
	}
	m := &model{s: a.m, c: stood(c), d: d}
	want := tried(func() { steps(m) })
	if want != api.OK {
		m.c, m.out, m.heard, m.n = c, nil, nil, 0
	}
	if got.e != want {
		a.Fatalf("%s: %d, want %d", what, got.e, want)
	}
	if s := differs(got.c, m.c); s != "" {
		a.Fatalf("%s (%d): %s", what, want, s)
	}
	if !sameTexts(got.out, m.out) {
		a.Fatalf("%s (%d) sends %x, want %x", what, want, got.out, m.out)
	}
	if !slices.EqualFunc(got.heard, m.heard, sameHeard) || got.n != m.n {
		a.Fatalf("%s (%d): %v %d, want %v %d", what, want, got.heard, got.n, m.heard, m.n)
	}
	a.terms(from)
}

func (a asker) trust(c api.Client, peer byte, print api.Key) (api.Client, api.Errno) {
	a.Helper()
	was, from := stood(c), a.count()
	got, e := client.Trust(c, peer, print)
	a.compare("Trust", c, was, api.Key{}, from, done{c: got, e: e}, func(m *model) { m.trust(peer, print) })
	return got, e
}

func (a asker) say(c api.Client, peer byte, body []byte) (api.Client, uint16, api.Errno) {
	a.Helper()
	was, given, from := stood(c), slices.Clone(body), a.count()
	got, n, e := client.Say(c, peer, body)
	a.compare("Say", c, was, api.Key{}, from, done{c: got, n: n, e: e}, func(m *model) { m.say(peer, body) })
	if !bytes.Equal(body, given) {
		a.Fatal("Say changed what is said")
	}
	return got, n, e
}

func (a asker) tick(c api.Client, d api.Key) (api.Client, [][]byte) {
	a.Helper()
	was, from := stood(c), a.count()
	got, out := client.Tick(a.s, c, d)
	a.compare("Tick", c, was, d, from, done{c: got, out: out}, func(m *model) { m.tick() })
	return got, out
}

func (a asker) handle(c api.Client, b []byte, d api.Key) (api.Client, []api.Heard, api.Errno) {
	a.Helper()
	was, given, from := stood(c), slices.Clone(b), a.count()
	got, heard, e := client.Handle(a.s, c, b, d)
	a.compare("Handle", c, was, d, from, done{c: got, heard: heard, e: e}, func(m *model) { m.handle(b) })
	if !bytes.Equal(b, given) {
		a.Fatal("Handle changed what came")
	}
	return got, heard, e
}

// rows asks for a device's rows, load for the device of some.
func rows(t *testing.T, c api.Client) ([]api.Change, bool) {
	t.Helper()
	was := stood(c)
	got, ok := client.Rows(c)
	want, wanted := rowsOf(c)
	if ok != wanted || !sameRows(got, want) {
		t.Fatalf("Rows: %v %t, want %v %t", got, ok, want, wanted)
	}
	if d := differs(c, was); d != "" {
		t.Fatalf("Rows changed %s", d)
	}
	return got, ok
}

func load(t *testing.T, l []api.Change) (api.Client, bool) {
	t.Helper()
	was := row(l, changed)
	got, ok := client.Load(l)
	want, wanted := clientOf(l)
	if d := differs(got, want); d != "" || ok != wanted {
		t.Fatalf("Load: %t, want %t; %s", ok, wanted, d)
	}
	if !sameRows(l, was) {
		t.Fatal("Load changed the rows")
	}
	return got, ok
}

// is asks for an error's number.
func (a asker) is(what string, e, want api.Errno) {
	a.Helper()
	if e != want {
		a.Fatalf("%s: %d, want %d", what, e, want)
	}
}
