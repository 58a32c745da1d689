package relay_test

import (
	"bytes"
	"fmt"
	"slices"
	"testing"

	"missive/api"
	"missive/relay"
	"missive/suite"
	"missive/term"
)

// What is asked of the package, and held against the words.

// stood is the server, in memory of its own, none and empty being one.
func stood(r api.Relay) api.Relay {
	r.Chain, r.Turn = row(r.Chain, laid), laid(r.Turn)
	for n := range 4 {
		h := &r.Homes[n]
		h.Reply, h.Shelf.Left, h.Inbox.Items = copied(h.Reply), copied(h.Shelf.Left), row(h.Inbox.Items, itemed)
		r.Queues[n].Items, r.Acks[n] = row(r.Queues[n].Items, itemed), copied(r.Acks[n])
	}
	return r
}

func copied[T any](l []T) []T { return append([]T(nil), l...) }

// row are the things, each in memory of its own.
func row[T any](l []T, lay func(T) T) (m []T) {
	for _, x := range l {
		m = append(m, lay(x))
	}
	return m
}

func laid(x api.Object) api.Object {
	x.Vouches = copied(x.Vouches)
	return x
}

func itemed(x api.Item) api.Item {
	x.Letter.Body, x.Object = copied(x.Letter.Body), laid(x.Object)
	return x
}

func changed(c api.Change) api.Change {
	c.Value = copied(c.Value)
	return c
}

// differs tells in what two servers are unlike: in nothing, if they are alike.
func differs(r, q api.Relay) string {
	for n := range 4 {
		g, h := r.Homes[n], q.Homes[n]
		switch {
		case g.Agree != h.Agree || g.Signer != h.Signer || g.Seq != h.Seq:
			return fmt.Sprintf("the home %d: %x %x %d, %x %x %d", n, g.Agree, g.Signer, g.Seq, h.Agree, h.Signer, h.Seq)
		case !bytes.Equal(g.Reply, h.Reply):
			return fmt.Sprintf("the reply %d: %x, %x", n, g.Reply, h.Reply)
		case g.Shelf.Has != h.Shelf.Has || g.Shelf.Last != h.Shelf.Last || g.Shelf.Fallback != h.Shelf.Fallback || !slices.Equal(g.Shelf.Left, h.Shelf.Left):
			return fmt.Sprintf("the shelf %d: %v, %v", n, g.Shelf, h.Shelf)
		case !sameQueue(g.Inbox, h.Inbox):
			return fmt.Sprintf("the inbox %d: %s, %s", n, brief(g.Inbox), brief(h.Inbox))
		case !sameQueue(r.Queues[n], q.Queues[n]):
			return fmt.Sprintf("the queue %d: %s, %s", n, brief(r.Queues[n]), brief(q.Queues[n]))
		case !bytes.Equal(r.Acks[n], q.Acks[n]) || r.Last[n] != q.Last[n]:
			return fmt.Sprintf("the acknowledgement %d: %d %x, %d %x", n, r.Last[n], r.Acks[n], q.Last[n], q.Acks[n])
		}
	}
	switch {
	case r.Server != q.Server || r.Secret != q.Secret || r.First != q.First || r.Clock != q.Clock || r.Cache != q.Cache:
		return fmt.Sprintf("the server: %d %x %x %d %v, %d %x %x %d %v", r.Server, r.Secret, r.First, r.Clock, r.Cache, q.Server, q.Secret, q.First, q.Clock, q.Cache)
	case r.Turning != q.Turning || r.TurnSecret != q.TurnSecret || !sameObject(r.Turn, q.Turn):
		return fmt.Sprintf("what is turning: %t %v %x, %t %v %x", r.Turning, r.Turn, r.TurnSecret, q.Turning, q.Turn, q.TurnSecret)
	case !slices.EqualFunc(r.Chain, q.Chain, sameObject):
		return fmt.Sprintf("the chain: %v, %v", r.Chain, q.Chain)
	}
	return ""
}

func sameObject(x, y api.Object) bool {
	return x.Server == y.Server && x.N == y.N && x.Key == y.Key && x.From == y.From && x.Until == y.Until && x.Sig == y.Sig && slices.Equal(x.Vouches, y.Vouches)
}

func sameItem(x, y api.Item) bool {
	a, b := x.Letter, y.Letter
	return x.Kind == y.Kind && x.Asker == y.Asker && x.Peer == y.Peer && x.Bundle == y.Bundle && sameObject(x.Object, y.Object) &&
		a.From == b.From && a.To == b.To && a.Header == b.Header && bytes.Equal(a.Body, b.Body)
}

func sameQueue(q, p api.Queue) bool {
	return q.Sent == p.Sent && q.Id == p.Id && q.Wait == p.Wait && q.Back == p.Back && slices.EqualFunc(q.Items, p.Items, sameItem)
}

func sameRows(l, m []api.Change) bool {
	return slices.EqualFunc(l, m, func(r, s api.Change) bool {
		return r.Name == s.Name && r.Gone == s.Gone && bytes.Equal(r.Value, s.Value)
	})
}

func sameTexts(l, m [][]byte) bool { return slices.EqualFunc(l, m, bytes.Equal) }

// brief is a queue as it is told where something is wrong.
func brief(q api.Queue) string {
	s := fmt.Sprintf("%d items (", len(q.Items))
	for _, x := range q.Items {
		s += fmt.Sprintf(" %d/%d/%d", x.Kind, x.Asker, x.Peer)
	}
	return s + fmt.Sprintf(" ), Sent %d, Id %d, Wait %d, Back %d", q.Sent, q.Id, q.Wait, q.Back)
}

// asker asks the package and the model the same, each by a suite of its own, and holds the answers and the suites' terms against each other.
type asker struct {
	*testing.T
	s, m suite.Suite
}

// askers are one of each suite, new; where there is little time the free one alone.
func askers(t *testing.T) []asker {
	if testing.Short() {
		return []asker{termer(t)}
	}
	return []asker{reckoner(t), termer(t)}
}

func reckoner(t *testing.T) asker { return asker{t, suite.Real(), suite.Real()} }

func termer(t *testing.T) asker { return asker{t, suite.Free(), suite.Free()} }

// both is what is made by both suites, if that leaves traces in them.
func both[T any](a asker, make func(s suite.Suite) T) T {
	if a.m.Terms() != nil {
		make(a.m)
	}
	return make(a.s)
}

// fill leaves room for so many terms.
func (a asker) fill(room int) {
	a.Helper()
	for _, s := range []suite.Suite{a.s, a.m} {
		for i := s.Terms().Len(); i < api.MaxTerms-room; i++ {
			if _, ok := s.Terms().Make(term.Nonce, []byte{9, byte(i), byte(i >> 8)}); !ok {
				a.Fatal("the table is full too early")
			}
		}
	}
}

// count is how many terms there are.
func (a asker) count() int {
	if a.s.Terms() == nil {
		return 0
	}
	return a.s.Terms().Len()
}

// terms asks whether both suites made the same ones in the same order, behind those of a number.
func (a asker) terms(from int) {
	a.Helper()
	if a.s.Terms() == nil {
		return
	}
	if n, want := a.count(), a.m.Terms().Len(); n != want {
		a.Fatalf("%d terms, want %d", n, want)
	}
	for i := from + 1; i <= a.count(); i++ {
		kind, parts, _ := a.s.Terms().Of(named(i))
		wantKind, want, _ := a.m.Terms().Of(named(i))
		if kind != wantKind || !sameTexts(parts, want) {
			a.Fatalf("the term %d is of %d %q, want %d %q", i, kind, parts, wantKind, want)
		}
	}
}

// named is the name of the term of that number.
func named(n int) api.Key {
	return api.Key{'t', 'e', 'r', 'm', byte(n >> 24), byte(n >> 16), byte(n >> 8), byte(n)}
}

// compare holds what a step answers against the model's.
func (a asker) compare(what string, r api.Relay, from int, got api.Relay, out [][]byte, e api.Errno, steps func(m *model)) {
	a.Helper()
	m := &model{s: a.m, r: stood(r)}
	want := tried(func() { steps(m) })
	if want != api.OK {
		m.r, m.out = r, nil
	}
	if e != want {
		a.Fatalf("%s: %d, want %d", what, e, want)
	}
	if d := differs(got, m.r); d != "" {
		a.Fatalf("%s (%d): %s", what, e, d)
	}
	if !sameTexts(out, m.out) {
		a.Fatalf("%s (%d) sends %x, want %x", what, e, out, m.out)
	}
	a.terms(from)
}

// left asks whether the server is as it was.
func (a asker) left(what string, r, was api.Relay) {
	a.Helper()
	if d := differs(r, was); d != "" {
		a.Fatalf("%s changed %s", what, d)
	}
}

func (a asker) handle(r api.Relay, b []byte) (api.Relay, [][]byte, api.Errno) {
	a.Helper()
	was, given, from := stood(r), slices.Clone(b), a.count()
	got, out, e := relay.Handle(a.s, r, b)
	a.compare("Handle", r, from, got, out, e, func(m *model) { m.handle(b) })
	a.left("Handle", r, was)
	if !bytes.Equal(b, given) {
		a.Fatal("Handle changed what came")
	}
	return got, out, e
}

func (a asker) tick(r api.Relay) (api.Relay, [][]byte) {
	a.Helper()
	was, from := stood(r), a.count()
	got, out := relay.Tick(a.s, r)
	a.compare("Tick", r, from, got, out, api.OK, func(m *model) { m.tick() })
	a.left("Tick", r, was)
	return got, out
}

func (a asker) rotate(r api.Relay, draw api.Key) (api.Relay, [][]byte, api.Errno) {
	a.Helper()
	was, from := stood(r), a.count()
	got, out, e := relay.Rotate(a.s, r, draw)
	a.compare("Rotate", r, from, got, out, e, func(m *model) { m.rotate(draw) })
	a.left("Rotate", r, was)
	return got, out, e
}

// rows asks for a server's rows, load for the server of some.
func rows(t *testing.T, r api.Relay) ([]api.Change, bool) {
	t.Helper()
	was := stood(r)
	got, ok := relay.Rows(r)
	want, wanted := rowsOf(r)
	if ok != wanted || !sameRows(got, want) {
		t.Fatalf("Rows: %v %t, want %v %t", got, ok, want, wanted)
	}
	if d := differs(r, was); d != "" {
		t.Fatalf("Rows changed %s", d)
	}
	return got, ok
}

func load(t *testing.T, l []api.Change) (api.Relay, bool) {
	t.Helper()
	was := row(l, changed)
	got, ok := relay.Load(l)
	want, wanted := relayOf(l)
	if d := differs(got, want); d != "" || ok != wanted {
		t.Fatalf("Load: %t, want %t; %s", ok, wanted, d)
	}
	if !sameRows(l, was) {
		t.Fatal("Load changed the rows")
	}
	return got, ok
}

// is asks for an error's number.
func (a asker) is(what string, e, want api.Errno) {
	a.Helper()
	if e != want {
		a.Fatalf("%s: %d, want %d", what, e, want)
	}
}
