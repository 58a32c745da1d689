package fedq_test

import (
	"slices"
	"testing"

	"missive/api"
	"missive/fedq"
)

// Rules that hold everywhere

// given is what is handed in: a call takes of it what it needs.
type given struct {
	q    api.Queue
	x    api.Item
	rows []api.Change
}

// answer is what a call answers, all of it.
type answer struct {
	q    api.Queue
	x    api.Trans
	rows []api.Change
	ok   bool
	e    api.Errno
}

func (a answer) copied() answer {
	a.q, a.x, a.rows = stood(a.q), handed(a.x), kept(a.rows)
	return a
}

func (a answer) is(b answer) bool {
	return same(a.q, b.q) && equal(a.x, b.x) && sameRows(a.rows, b.rows) && a.ok == b.ok && a.e == b.e
}

// call is one of the package's, and what is handed in.
type call struct {
	what string
	given
	do func(g given) answer
}

func puttings(g given) answer {
	q, e := fedq.Put(g.q, g.x)
	return answer{q: q, e: e}
}

func ticks(g given) answer { return answer{q: fedq.Tick(g.q)} }

func polls(g given) answer {
	q, x, ok := fedq.Poll(g.q)
	return answer{q: q, x: x, ok: ok}
}

func ackings(id uint16) func(given) answer {
	return func(g given) answer {
		q, ok := fedq.Acked(g.q, id)
		return answer{q: q, ok: ok}
	}
}

func keeps(g given) answer {
	l, ok := fedq.Rows("q0", g.q)
	return answer{rows: l, ok: ok}
}

func loads(g given) answer {
	q, ok := fedq.Load("q0", g.rows)
	return answer{q: q, ok: ok}
}

// polled is a queue of so many items, of which some are under way.
func polled(n, wait int) api.Queue {
	q, _, _ := fedq.Poll(api.Queue{Items: waiting(n).Items})
	q.Wait = byte(wait)
	return q
}

// calls are some of each, done and refused.
func calls() []call {
	d := drawer(50)
	one, object := d.item(api.ItemLetter), d.item(api.ItemVouch)
	object.Object = d.object(3)
	l, _ := rowsOf("q0", waiting(7))
	spoilt := slices.Clone(l)
	spoilt[2].Value = spoilt[2].Value[1:]
	long := bodied(900)
	return []call{
		{"Put", given{q: polled(6, 1), x: one}, puttings},
		{"Put of an object", given{q: polled(7, 1), x: object}, puttings},
		{"Put into none", given{x: object}, puttings},
		{"Put, ErrForm", given{q: polled(6, 1), x: api.Item{Kind: 7, Letter: one.Letter, Object: object.Object}}, puttings},
		{"Put, ErrLong", given{q: polled(6, 1), x: long}, puttings},
		{"Put, ErrFull", given{q: polled(8, 1), x: object}, puttings},
		{"Tick", given{q: polled(8, 1)}, ticks},
		{"Tick without Wait", given{q: polled(8, 0)}, ticks},
		{"Poll", given{q: waiting(0)}, polls},
		{"Poll of a new transaction", given{q: api.Queue{Items: waiting(8).Items}}, polls},
		{"Poll of two", given{q: api.Queue{Items: waiting(8).Items[4:6]}}, polls},
		{"Poll of the one under way", given{q: polled(8, 0)}, polls},
		{"Poll ahead of time", given{q: polled(8, 2)}, polls},
		{"Poll at the last number", given{q: api.Queue{Items: waiting(8).Items, Id: api.MaxCount}}, polls},
		{"Poll of too many", given{q: api.Queue{Items: waiting(8).Items, Sent: 80}}, polls},
		{"Poll of less than none", given{q: api.Queue{Items: waiting(8).Items, Sent: -1}}, polls},
		{"Acked", given{q: polled(8, 2)}, ackings(1)},
		{"Acked of all", given{q: polled(4, 2)}, ackings(1)},
		{"Acked of another one", given{q: polled(8, 2)}, ackings(2)},
		{"Acked of none", given{q: api.Queue{Items: waiting(8).Items}}, ackings(0)},
		{"Rows", given{q: polled(8, 2)}, keeps},
		{"Rows of none", given{}, keeps},
		{"Rows of too many", given{q: api.Queue{Items: slices.Repeat(waiting(3).Items, 3)}}, keeps},
		{"Load", given{rows: l}, loads},
		{"Load of fewer", given{rows: l[:2]}, loads},
		{"Load of other bytes", given{rows: spoilt}, loads},
	}
}

// behind is the list, and behind it a lot of x in its spare room.
func behind[T any](l []T, x T) []T {
	return slices.Concat(l, slices.Repeat([]T{x}, 20))[:len(l)]
}

// whole is the list with its spare room.
func whole[T any](l []T) []T { return l[:cap(l)] }

// roomyItem is the item with spare room behind its lists, in which something lies; roomy is all that is given.
func roomyItem(x api.Item) api.Item {
	x.Letter.Body = behind(x.Letter.Body, 77)
	x.Object.Vouches = behind(x.Object.Vouches, api.Vouch{Notary: 78, Sig: api.Sig{78}})
	return x
}

func (g given) roomy() given {
	g.x, g.q.Items, g.rows = roomyItem(g.x), slices.Clone(g.q.Items), slices.Clone(g.rows)
	for i, x := range g.q.Items {
		g.q.Items[i] = roomyItem(x)
	}
	for i := range g.rows {
		g.rows[i].Value = behind(g.rows[i].Value, 79)
	}
	g.q.Items, g.rows = behind(g.q.Items, ask(80)), behind(g.rows, api.Change{Name: "q0h", Value: []byte{81}})
	return g
}

// copied is all that is given, with all that lies in the spare room.
func (g given) copied() given {
	g.x, g.q.Items, g.rows = wholeItem(g.x), slices.Clone(whole(g.q.Items)), slices.Clone(whole(g.rows))
	for i, x := range g.q.Items {
		g.q.Items[i] = wholeItem(x)
	}
	for i := range g.rows {
		g.rows[i].Value = slices.Clone(whole(g.rows[i].Value))
	}
	return g
}

func wholeItem(x api.Item) api.Item {
	x.Letter.Body = slices.Clone(whole(x.Letter.Body))
	x.Object.Vouches = slices.Clone(whole(x.Object.Vouches))
	return x
}

// spoilItem writes over an item's lists, and over their spare room; spoil over all that is given.
func spoilItem(x *api.Item) {
	for i := range whole(x.Letter.Body) {
		whole(x.Letter.Body)[i]++
	}
	for i := range whole(x.Object.Vouches) {
		v := &whole(x.Object.Vouches)[i]
		v.Notary, v.Sig[0] = v.Notary+1, v.Sig[0]+1
	}
	x.Peer, x.Object.N, x.Letter.To = x.Peer+1, x.Object.N+1, x.Letter.To+1
}

func (g given) spoil() {
	spoilItem(&g.x)
	for i := range whole(g.q.Items) {
		spoilItem(&whole(g.q.Items)[i])
	}
	for i := range whole(g.rows) {
		r := &whole(g.rows)[i]
		for j := range whole(r.Value) {
			whole(r.Value)[j]++
		}
		r.Name += "!"
	}
}

func (g given) is(h given) bool {
	return same(g.q, h.q) && alike(g.x, h.x) && sameRows(g.rows, h.rows)
}

// What is handed in, and its spare room, is left as it was; and neither kept nor shared.
func TestArgumentsAreLeft(t *testing.T) {
	for i, c := range calls() {
		g := c.roomy()
		was := g.copied()
		got := c.do(g)
		if !g.copied().is(was) {
			t.Fatalf("%s: what is handed in is changed", c.what)
		}
		want := got.copied()
		g.spoil()
		if !got.is(want) {
			t.Fatalf("%s: the answer shares memory with what is handed in", c.what)
		}
		if c = calls()[i]; !c.do(c.roomy()).is(want) {
			t.Fatalf("%s: what is handed in is kept", c.what)
		}
	}
}

// An answer may be written over, and put behind.
func TestAnswersAreNewMemory(t *testing.T) {
	for _, c := range calls() {
		g := c.roomy()
		was := g.copied()
		one, two := c.do(g), c.do(g)
		want := two.copied()
		given{q: one.q, rows: one.rows}.spoil()
		given{q: api.Queue{Items: one.x.Items}}.spoil()
		if !g.copied().is(was) {
			t.Fatalf("%s: what is handed in shares memory with the answer", c.what)
		}
		if !two.is(want) || !c.do(g).is(want) {
			t.Fatalf("%s: two answers share memory", c.what)
		}
	}
}

// No two lists of one answer share memory: what is sent may be written over while its items wait.
func TestListsOfAnAnswerAreApart(t *testing.T) {
	for _, c := range calls() {
		got := c.do(c.roomy())
		want := got.copied()
		given{q: api.Queue{Items: got.x.Items}}.spoil()
		if !same(got.q, want.q) {
			t.Fatalf("%s: the queue shares memory with the transaction", c.what)
		}
		got = c.do(c.roomy())
		given{q: got.q}.spoil()
		if !equal(got.x, want.x) {
			t.Fatalf("%s: the transaction shares memory with the queue", c.what)
		}
		for i := range want.q.Items {
			got = c.do(c.roomy())
			spoilItem(&got.q.Items[i])
			for j := range want.q.Items {
				if i != j && !alike(got.q.Items[j], want.q.Items[j]) {
					t.Fatalf("%s: the items %d and %d share memory", c.what, i, j)
				}
			}
		}
		for i := range want.rows {
			got = c.do(c.roomy())
			given{rows: got.rows[i : i+1 : i+1]}.spoil()
			got.rows[i] = want.rows[i]
			if !sameRows(got.rows, want.rows) {
				t.Fatalf("%s: two rows share memory", c.what)
			}
		}
	}
}

// Nothing that doesn't wait lies in a list's spare room: no letter that was acknowledged.
func TestNothingLiesBehind(t *testing.T) {
	for _, c := range calls() {
		got := c.do(c.roomy())
		for _, l := range [][]api.Item{got.q.Items, got.x.Items} {
			for _, x := range whole(l)[len(l):] {
				if !alike(x, api.Item{}) {
					t.Fatalf("%s: behind the list there is %v", c.what, x)
				}
			}
			for _, x := range l {
				body, vouches := x.Letter.Body, x.Object.Vouches
				if slices.ContainsFunc(whole(body)[len(body):], func(b byte) bool { return b != 0 }) {
					t.Fatalf("%s: behind the body there is %v", c.what, whole(body))
				}
				if slices.ContainsFunc(whole(vouches)[len(vouches):], func(v api.Vouch) bool { return v != api.Vouch{} }) {
					t.Fatalf("%s: behind the vouches there is %v", c.what, whole(vouches))
				}
			}
		}
	}
}

// The same done twice answers the same; nil and empty are one.
func TestTheSameAgain(t *testing.T) {
	for _, c := range calls() {
		want := c.do(c.given)
		if again := c.do(c.given); !again.is(want) {
			t.Errorf("%s: done once more it answers %v, want %v", c.what, again, want)
		}
		g := c.given
		g.q, g.x, g.rows = stood(g.q), laid(g.x), kept(g.rows)
		if other := c.do(g); !other.is(want) {
			t.Errorf("%s: of lists that are none it answers %v, want %v", c.what, other, want)
		}
		g.q.Items, g.rows = append([]api.Item{}, g.q.Items...), append([]api.Change{}, g.rows...)
		for i := range g.q.Items {
			x := &g.q.Items[i]
			x.Letter.Body, x.Object.Vouches = append([]byte{}, x.Letter.Body...), append([]api.Vouch{}, x.Object.Vouches...)
		}
		g.x.Letter.Body, g.x.Object.Vouches = append([]byte{}, g.x.Letter.Body...), append([]api.Vouch{}, g.x.Object.Vouches...)
		if other := c.do(g); !other.is(want) {
			t.Errorf("%s: of empty lists it answers %v, want %v", c.what, other, want)
		}
	}
}
