package relay_test

import (
	"fmt"
	"reflect"
	"slices"
	"testing"

	"missive/api"
	"missive/relay"
	"missive/suite"
)

// Rules that hold everywhere

// given is what is handed in: a call takes of it what it needs.
type given struct {
	r    api.Relay
	b    []byte
	rows []api.Change
}

// answer is what a call answers, all of it.
type answer struct {
	r    api.Relay
	out  [][]byte
	rows []api.Change
	ok   bool
	e    api.Errno
}

func (a answer) copied() answer {
	a.r, a.out, a.rows = stood(a.r), row(a.out, copied), row(a.rows, changed)
	return a
}

func (a answer) is(b answer) bool {
	return differs(a.r, b.r) == "" && sameTexts(a.out, b.out) && sameRows(a.rows, b.rows) && a.ok == b.ok && a.e == b.e
}

// doing is one of the package's calls, and what is handed in.
type doing struct {
	what string
	given
	do func(s suite.Suite, g given) answer
}

func handles(s suite.Suite, g given) answer {
	r, out, e := relay.Handle(s, g.r, g.b)
	return answer{r: r, out: out, e: e}
}

func ticks(s suite.Suite, g given) answer {
	r, out := relay.Tick(s, g.r)
	return answer{r: r, out: out}
}

func rotates(s suite.Suite, g given) answer {
	r, out, e := relay.Rotate(s, g.r, run(77))
	return answer{r: r, out: out, e: e}
}

func keeps(s suite.Suite, g given) answer {
	l, ok := relay.Rows(g.r)
	return answer{rows: l, ok: ok}
}

func loading(s suite.Suite, g given) answer {
	r, ok := relay.Load(g.rows)
	return answer{r: r, ok: ok}
}

func news(s suite.Suite, g given) answer {
	return answer{r: relay.New(s, 1, run(1), g.r.Cache, g.r.Homes)}
}

// doings are some of each, done and refused.
func (a asker) doings() []doing {
	a.Helper()
	r, right := a.busy()
	r.Homes[0].Reply, r.Acks[0], r.Acks[3] = []byte("reply"), []byte("ack"), []byte("another")
	d := drawer(5)
	r.Homes[2].Inbox.Items = d.items(7)
	still := with(r, func(r *api.Relay) { r.Turning, r.Turn, r.TurnSecret = false, api.Object{}, api.Key{} })
	alone := with(still, func(r *api.Relay) { r.Cache.Need = 0 })
	third := with(r, func(r *api.Relay) { r.Turn = a.vouched(r.Turn, 0, 3) })
	full := with(still, func(r *api.Relay) { r.Queues[0] = filled(8, 3) })
	told := with(r, func(r *api.Relay) { r.Last[3] = 1 })
	unwritten := with(r, func(r *api.Relay) { r.Homes[3].Reply = make([]byte, 5000) })
	l, _ := relay.Rows(r)
	spoilt := slices.Clone(l)
	spoilt[len(l)-1].Value = spoilt[len(l)-1].Value[1:]
	all := []doing{
		{"New", given{r: r}, news},
		{"Handle of bytes", given{r: r, b: []byte("bytes")}, handles},
		{"Handle of a call again", given{r: r, b: a.calls(4, api.Call{Kind: api.CallSync, Seq: 3})}, handles},
		{"Handle of a call too far", given{r: r, b: a.calls(4, api.Call{Kind: api.CallSync, Seq: 5})}, handles},
		{"Handle of a call that is refused", given{r: r, b: a.calls(4, api.Call{Kind: api.CallSync, Seq: 4, Since: 7})}, handles},
		{"Handle of a claim without room", given{r: with(r, func(r *api.Relay) { r.Homes[0].Inbox = filled(8, 8) }), b: a.calls(4, api.Call{Kind: api.CallClaim, Seq: 4, Peer: 4})}, handles},
		{"Handle of a transaction again", given{r: told, b: right[6]}, handles},
		{"Handle of the last vouch", given{r: third, b: right[5]}, handles},
		{"Handle of an acknowledgement of nothing", given{r: r, b: a.acks(2, 1, 8)}, handles},
		{"Handle of a letter without room", given{r: with(r, func(r *api.Relay) { r.Homes[1].Inbox = filled(8, 8) }), b: right[6]}, handles},
		{"Tick", given{r: r}, ticks},
		{"Rotate", given{r: still}, rotates},
		{"Rotate alone", given{r: alone}, rotates},
		{"Rotate of what turns", given{r: r}, rotates},
		{"Rotate without room", given{r: full}, rotates},
		{"Rows", given{r: r}, keeps},
		{"Rows that can't be", given{r: unwritten}, keeps},
		{"Load", given{rows: l}, loading},
		{"Load of fewer", given{rows: l[1:]}, loading},
		{"Load of other bytes", given{rows: spoilt}, loading},
	}
	for i, b := range right {
		all = append(all, doing{fmt.Sprint("Handle of the packet ", i), given{r: r, b: b}, handles})
	}
	return all
}

// each does something with every list that stands in x, however deep.
func each(x reflect.Value, do func(list reflect.Value)) {
	switch x.Kind() {
	case reflect.Slice:
		do(x)
		for i := range x.Len() {
			each(x.Index(i), do)
		}
	case reflect.Array:
		if x.Type().Elem().Kind() != reflect.Uint8 {
			for i := range x.Len() {
				each(x.Index(i), do)
			}
		}
	case reflect.Struct:
		for i := range x.NumField() {
			each(x.Field(i), do)
		}
	case reflect.Pointer:
		each(x.Elem(), do)
	}
}

// roomy is all that is given in memory of its own, with spare room behind its lists in which something lies.
func (g given) roomy() given {
	g.r, g.b, g.rows = stood(g.r), copied(g.b), row(g.rows, changed)
	widen := func(l reflect.Value) {
		wide := reflect.MakeSlice(l.Type(), l.Len()+9, l.Len()+9)
		reflect.Copy(wide, l)
		for i := range 9 {
			litter(wide.Index(l.Len() + i))
		}
		l.Set(wide.Slice(0, l.Len()))
	}
	each(reflect.ValueOf(&g.r), widen)
	each(reflect.ValueOf(&g.b), widen)
	each(reflect.ValueOf(&g.rows), widen)
	return g
}

// litter writes something over what may be written over: numbers, and what is deeper.
func litter(x reflect.Value) {
	switch x.Kind() {
	case reflect.Uint8, reflect.Uint16, reflect.Uint32:
		x.SetUint(x.Uint() ^ 85)
	case reflect.Int:
		x.SetInt(x.Int() + 1)
	case reflect.String:
		x.SetString(x.String() + "!")
	case reflect.Array:
		litter(x.Index(0))
	case reflect.Struct:
		for i := range x.NumField() {
			litter(x.Field(i))
		}
	}
}

// spoil writes over all lists that stand in the thing, and over their spare room.
func spoil(x any) {
	var lists []reflect.Value
	each(reflect.ValueOf(x), func(l reflect.Value) { lists = append(lists, l) })
	for _, l := range lists {
		whole := l.Slice(0, l.Cap())
		for i := range whole.Len() {
			litter(whole.Index(i))
		}
	}
}

// print is all that stands in the thing's lists, with all that lies in their spare room.
func print(x any) (s string) {
	each(reflect.ValueOf(x), func(l reflect.Value) { s += fmt.Sprintf("%v\n", l.Slice(0, l.Cap()).Interface()) })
	return s
}

func (g *given) print() string { return print(&g.r) + print(&g.b) + print(&g.rows) }

func (g *given) spoil() {
	spoil(&g.r)
	spoil(&g.b)
	spoil(&g.rows)
}

// What is handed in, and its spare room, is left as it was; and neither kept nor shared.
func TestArgumentsAreLeft(t *testing.T) {
	a := termer(t)
	again := a.doings()
	for i, c := range a.doings() {
		g := c.roomy()
		was := g.print()
		got := c.do(a.s, g)
		if g.print() != was {
			t.Fatalf("%s: what is handed in is changed", c.what)
		}
		want := got.copied()
		g.spoil()
		if !got.is(want) {
			t.Fatalf("%s: the answer shares memory with what is handed in", c.what)
		}
		if c = again[i]; !c.do(a.s, c.roomy()).is(want) {
			t.Fatalf("%s: what is handed in is kept", c.what)
		}
	}
}

// An answer may be written over, and put behind.
func TestAnswersAreNewMemory(t *testing.T) {
	a := termer(t)
	for _, c := range a.doings() {
		g := c.roomy()
		was := g.print()
		one, two := c.do(a.s, g), c.do(a.s, g)
		want := two.copied()
		spoil(&one.r)
		spoil(&one.out)
		spoil(&one.rows)
		if g.print() != was {
			t.Fatalf("%s: what is handed in shares memory with the answer", c.what)
		}
		if !two.is(want) || !c.do(a.s, g).is(want) {
			t.Fatalf("%s: two answers share memory", c.what)
		}
	}
}

// lists are all lists of numbers or things that stand in an answer.
func (a *answer) lists() (l []reflect.Value) {
	gather := func(x reflect.Value) {
		if x.Cap() > 0 {
			l = append(l, x.Slice(0, x.Cap()))
		}
	}
	each(reflect.ValueOf(&a.r), gather)
	each(reflect.ValueOf(&a.out), gather)
	each(reflect.ValueOf(&a.rows), gather)
	return l
}

// No two lists of one answer share memory: what is sent may be written over while it is kept.
func TestListsOfAnAnswerAreApart(t *testing.T) {
	a := termer(t)
	for _, c := range a.doings() {
		got := c.do(a.s, c.roomy())
		type stretch struct{ from, to uintptr }
		var seen []stretch
		for _, l := range got.lists() {
			s := stretch{l.Pointer(), l.Pointer() + uintptr(l.Len())*l.Type().Elem().Size()}
			for _, other := range seen {
				if s.from < other.to && other.from < s.to {
					t.Fatalf("%s: two lists share memory", c.what)
				}
			}
			seen = append(seen, s)
		}
	}
}

// Nothing lies in a list's spare room: no letter that was had, no secret that is none any more.
func TestNothingLiesBehind(t *testing.T) {
	a := termer(t)
	for _, c := range a.doings() {
		got := c.do(a.s, c.roomy())
		for _, part := range []any{&got.r, &got.rows} {
			each(reflect.ValueOf(part), func(l reflect.Value) {
				for i := l.Len(); i < l.Cap(); i++ {
					if x := l.Slice(0, l.Cap()).Index(i); !x.IsZero() {
						t.Fatalf("%s: behind a list there is %v", c.what, x)
					}
				}
			})
		}
	}
}

// The same done twice answers the same; nil and empty are one.
func TestTheSameAgain(t *testing.T) {
	for _, a := range askers(t) {
		for _, c := range a.doings() {
			want := c.do(a.s, c.given)
			if again := c.do(a.s, c.given); !again.is(want) {
				t.Errorf("%s: done once more it answers otherwise", c.what)
			}
			g := c.given
			g.r, g.b, g.rows = stood(g.r), copied(g.b), row(g.rows, changed)
			empty := func(l reflect.Value) {
				if l.Len() == 0 {
					l.Set(reflect.MakeSlice(l.Type(), 0, 0))
				}
			}
			each(reflect.ValueOf(&g.r), empty)
			each(reflect.ValueOf(&g.rows), empty)
			if other := c.do(a.s, g); !other.is(want) {
				t.Errorf("%s: of empty lists it answers otherwise", c.what)
			}
		}
	}
}

// Beside an error the server is as it was, and nothing is sent.
func TestBesideAnError(t *testing.T) {
	for _, a := range askers(t) {
		errors := 0
		for _, c := range a.doings() {
			if got := c.do(a.s, c.given); got.e != api.OK {
				errors++
				if d := differs(got.r, c.r); d != "" || len(got.out) > 0 {
					t.Errorf("%s: beside the error %d there is changed %s, and are sent %d", c.what, got.e, d, len(got.out))
				}
			}
		}
		if errors < 6 {
			t.Errorf("there are %d errors", errors)
		}
	}
}
