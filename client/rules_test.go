package client_test

import (
	"fmt"
	"reflect"
	"slices"
	"testing"

	"missive/api"
	"missive/client"
	"missive/suite"
	"missive/wire"
)

// Rules that hold everywhere

// given is what is handed in: a call takes of it what it needs.
type given struct {
	c    api.Client
	b    []byte
	rows []api.Change
}

// answer is what a call answers, all of it.
type answer struct {
	c     api.Client
	n     uint16
	out   [][]byte
	heard []api.Heard
	rows  []api.Change
	ok    bool
	e     api.Errno
}

func (a answer) copied() answer {
	a.c, a.out, a.heard, a.rows = stood(a.c), row(a.out, copied), row(a.heard, toldOf), row(a.rows, changed)
	return a
}

func (a answer) is(b answer) bool {
	return differs(a.c, b.c) == "" && a.n == b.n && sameTexts(a.out, b.out) && slices.EqualFunc(a.heard, b.heard, sameHeard) && sameRows(a.rows, b.rows) && a.ok == b.ok && a.e == b.e
}

// doing is one of the package's calls, and what is handed in.
type doing struct {
	what string
	given
	do func(s suite.Suite, g given) answer
}

func handles(s suite.Suite, g given) answer {
	c, heard, e := client.Handle(s, g.c, g.b, run(77))
	return answer{c: c, heard: heard, e: e}
}

func ticks(s suite.Suite, g given) answer {
	c, out := client.Tick(s, g.c, run(78))
	return answer{c: c, out: out}
}

func trusts(peer byte) func(s suite.Suite, g given) answer {
	return func(s suite.Suite, g given) answer {
		c, e := client.Trust(g.c, peer, run(3))
		return answer{c: c, e: e}
	}
}

func says(peer byte) func(s suite.Suite, g given) answer {
	return func(s suite.Suite, g given) answer {
		c, n, e := client.Say(g.c, peer, g.b)
		return answer{c: c, n: n, e: e}
	}
}

func keeps(s suite.Suite, g given) answer {
	l, ok := client.Rows(g.c)
	return answer{rows: l, ok: ok}
}

func loading(s suite.Suite, g given) answer {
	c, ok := client.Load(g.rows)
	return answer{c: c, ok: ok}
}

func news(s suite.Suite, g given) answer {
	return answer{c: client.New(5, g.c.Account, g.c.Cache)}
}

// doings are some of each, done and refused.
func (a asker) doings() []doing {
	a.Helper()
	devices, right := a.busy()
	d := drawer(5)
	full := devices[1]
	full.Peers[2].Held = d.saids(8)
	full.Peers[0].Held = d.saids(3)
	full.Peers[0].Out = d.saids(8)
	full.Peers[1].Sessions = append(full.Peers[1].Sessions, d.session(16), d.session(3))
	full.Again, _ = wire.PutCall(api.Call{Kind: api.CallPost, Letter: api.Letter{From: 5, To: 2, Body: []byte("again")}})
	still := with(full, func(c *api.Client) { c.Doing = nil })
	idle := with(still, func(c *api.Client) { c.Again, c.Known, c.Up = nil, true, 99 })
	many := with(still, func(c *api.Client) {
		for d := byte(8); d < 13; d++ {
			c.Peers = append(c.Peers, api.Peer{Device: d})
		}
	})
	unwritten := with(full, func(c *api.Client) { c.Doing = make([]byte, 5000) })
	l, _ := client.Rows(full)
	spoilt := slices.Clone(l)
	spoilt[len(l)-1].Value = spoilt[len(l)-1].Value[1:]
	all := []doing{
		{"New", given{c: full}, news},
		{"Trust", given{c: full}, trusts(3)},
		{"Trust of the last one", given{c: full}, trusts(15)},
		{"Trust of oneself", given{c: full}, trusts(5)},
		{"Trust again", given{c: full}, trusts(4)},
		{"Trust of one too many", given{c: many}, trusts(3)},
		{"Say", given{c: full, b: []byte("text")}, says(4)},
		{"Say nothing", given{c: full}, says(6)},
		{"Say to nobody", given{c: full}, says(3)},
		{"Say too much", given{c: full, b: make([]byte, 65)}, says(4)},
		{"Say without room", given{c: full}, says(2)},
		{"Tick once more", given{c: full}, ticks},
		{"Tick of a sync", given{c: with(still, func(c *api.Client) { c.Synced = false })}, ticks},
		{"Tick again", given{c: still}, ticks},
		{"Tick of an upload", given{c: with(still, func(c *api.Client) { c.Again, c.Known = nil, false })}, ticks},
		{"Tick of a letter", given{c: idle}, ticks},
		{"Tick of a claim", given{c: with(idle, func(c *api.Client) { c.Peers[0].Sessions, c.Peers[0].Asked = nil, false })}, ticks},
		{"Tick without number", given{c: with(idle, func(c *api.Client) { c.Seq = 65535 })}, ticks},
		{"Tick of nothing", given{c: with(idle, func(c *api.Client) { c.Peers = c.Peers[2:] })}, ticks},
		{"Handle of bytes", given{c: full, b: []byte("bytes")}, handles},
		{"Handle of nothing", given{c: full}, handles},
		{"Handle of what is being done", given{c: full, b: right[1]}, handles},
		{"Handle of what isn't", given{c: still, b: right[1]}, handles},
		{"Handle of another number", given{c: with(full, func(c *api.Client) { c.Seq = 7 }), b: right[1]}, handles},
		{"Rows", given{c: full}, keeps},
		{"Rows that can't be", given{c: unwritten}, keeps},
		{"Load", given{rows: l}, loading},
		{"Load of fewer", given{rows: l[1:]}, loading},
		{"Load of other bytes", given{rows: spoilt}, loading},
	}
	for i, b := range right {
		all = append(all, doing{fmt.Sprint("Handle of the packet ", i), given{c: devices[i], b: b}, handles})
	}
	return all
}

// each does something with every list that stands in x, however deep.
func each(x reflect.Value, do func(list reflect.Value)) {
	switch x.Kind() {
	case reflect.Slice:
		do(x)
		for i := range x.Len() {
			each(x.Index(i), do)
		}
	case reflect.Array:
		if x.Type().Elem().Kind() != reflect.Uint8 {
			for i := range x.Len() {
				each(x.Index(i), do)
			}
		}
	case reflect.Struct:
		for i := range x.NumField() {
			each(x.Field(i), do)
		}
	case reflect.Pointer:
		each(x.Elem(), do)
	}
}

// roomy is all that is given in memory of its own, with spare room behind its lists in which something lies.
func (g given) roomy() given {
	g.c, g.b, g.rows = stood(g.c), copied(g.b), row(g.rows, changed)
	widen := func(l reflect.Value) {
		wide := reflect.MakeSlice(l.Type(), l.Len()+9, l.Len()+9)
		reflect.Copy(wide, l)
		for i := range 9 {
			litter(wide.Index(l.Len() + i))
		}
		l.Set(wide.Slice(0, l.Len()))
	}
	each(reflect.ValueOf(&g.c), widen)
	each(reflect.ValueOf(&g.b), widen)
	each(reflect.ValueOf(&g.rows), widen)
	return g
}

// litter writes something over what may be written over: numbers, and what is deeper.
func litter(x reflect.Value) {
	switch x.Kind() {
	case reflect.Uint8, reflect.Uint16, reflect.Uint32:
		x.SetUint(x.Uint() ^ 85)
	case reflect.Int:
		x.SetInt(x.Int() + 1)
	case reflect.String:
		x.SetString(x.String() + "!")
	case reflect.Array:
		litter(x.Index(0))
	case reflect.Struct:
		for i := range x.NumField() {
			litter(x.Field(i))
		}
	}
}

// spoil writes over all lists that stand in the thing, and over their spare room.
func spoil(x any) {
	var lists []reflect.Value
	each(reflect.ValueOf(x), func(l reflect.Value) { lists = append(lists, l) })
	for _, l := range lists {
		whole := l.Slice(0, l.Cap())
		for i := range whole.Len() {
			litter(whole.Index(i))
		}
	}
}

// print is all that stands in the thing's lists, with all that lies in their spare room.
func print(x any) (s string) {
	each(reflect.ValueOf(x), func(l reflect.Value) { s += fmt.Sprintf("%v\n", l.Slice(0, l.Cap()).Interface()) })
	return s
}

func (g *given) print() string { return print(&g.c) + print(&g.b) + print(&g.rows) }

func (g *given) spoil() {
	spoil(&g.c)
	spoil(&g.b)
	spoil(&g.rows)
}

// What is handed in, and its spare room, is left as it was; and neither kept nor shared.
func TestArgumentsAreLeft(t *testing.T) {
	a := termer(t)
	again := a.doings()
	for i, c := range a.doings() {
		g := c.roomy()
		was := g.print()
		got := c.do(a.s, g)
		if g.print() != was {
			t.Fatalf("%s: what is handed in is changed", c.what)
		}
		want := got.copied()
		g.spoil()
		if !got.is(want) {
			t.Fatalf("%s: the answer shares memory with what is handed in", c.what)
		}
		if c = again[i]; !c.do(a.s, c.roomy()).is(want) {
			t.Fatalf("%s: what is handed in is kept", c.what)
		}
	}
}

// An answer may be written over, and put behind.
func TestAnswersAreNewMemory(t *testing.T) {
	a := termer(t)
	for _, c := range a.doings() {
		g := c.roomy()
		was := g.print()
		one, two := c.do(a.s, g), c.do(a.s, g)
		want := two.copied()
		spoil(&one.c)
		spoil(&one.out)
		spoil(&one.heard)
		spoil(&one.rows)
		if g.print() != was {
			t.Fatalf("%s: what is handed in shares memory with the answer", c.what)
		}
		if !two.is(want) || !c.do(a.s, g).is(want) {
			t.Fatalf("%s: two answers share memory", c.what)
		}
	}
}

// lists are all lists of numbers or things that stand in an answer.
func (a *answer) lists() (l []reflect.Value) {
	gather := func(x reflect.Value) {
		if x.Cap() > 0 {
			l = append(l, x.Slice(0, x.Cap()))
		}
	}
	each(reflect.ValueOf(&a.c), gather)
	each(reflect.ValueOf(&a.out), gather)
	each(reflect.ValueOf(&a.heard), gather)
	each(reflect.ValueOf(&a.rows), gather)
	return l
}

// No two lists of one answer share memory: what is sent or heard may be written over while it is kept.
func TestListsOfAnAnswerAreApart(t *testing.T) {
	a := termer(t)
	for _, c := range a.doings() {
		got := c.do(a.s, c.roomy())
		type stretch struct{ from, to uintptr }
		var seen []stretch
		for _, l := range got.lists() {
			s := stretch{l.Pointer(), l.Pointer() + uintptr(l.Len())*l.Type().Elem().Size()}
			for _, other := range seen {
				if s.from < other.to && other.from < s.to {
					t.Fatalf("%s: two lists share memory", c.what)
				}
			}
			seen = append(seen, s)
		}
	}
}

// Nothing lies in a list's spare room: no key that was used up, nothing that was said or heard already.
func TestNothingLiesBehind(t *testing.T) {
	a := termer(t)
	for _, c := range a.doings() {
		got := c.do(a.s, c.roomy())
		for _, part := range []any{&got.c, &got.rows} {
			each(reflect.ValueOf(part), func(l reflect.Value) {
				for i := l.Len(); i < l.Cap(); i++ {
					if x := l.Slice(0, l.Cap()).Index(i); !x.IsZero() {
						t.Fatalf("%s: behind a list there is %v", c.what, x)
					}
				}
			})
		}
	}
}

// The same done twice answers the same; nil and empty are one.
func TestTheSameAgain(t *testing.T) {
	for _, a := range askers(t) {
		for _, c := range a.doings() {
			want := c.do(a.s, c.given)
			if again := c.do(a.s, c.given); !again.is(want) {
				t.Errorf("%s: done once more it answers otherwise", c.what)
			}
			g := c.given
			g.c, g.b, g.rows = stood(g.c), copied(g.b), row(g.rows, changed)
			empty := func(l reflect.Value) {
				if l.Len() == 0 {
					l.Set(reflect.MakeSlice(l.Type(), 0, 0))
				}
			}
			each(reflect.ValueOf(&g.c), empty)
			each(reflect.ValueOf(&g.rows), empty)
			if other := c.do(a.s, g); !other.is(want) {
				t.Errorf("%s: of empty lists it answers otherwise", c.what)
			}
		}
	}
}

// Beside an error the device is as it was, and nothing is heard.
func TestBesideAnError(t *testing.T) {
	for _, a := range askers(t) {
		errors := 0
		for _, c := range a.doings() {
			if got := c.do(a.s, c.given); got.e != api.OK {
				errors++
				if d := differs(got.c, c.c); d != "" || len(got.heard) > 0 || got.n != 0 {
					t.Errorf("%s: beside the error %d there is changed %s, and are heard %d", c.what, got.e, d, len(got.heard))
				}
			}
		}
		if errors != 10 {
			t.Errorf("there are %d errors", errors)
		}
	}
}
