package bag_test

import (
	"bytes"
	"math"
	"reflect"
	"slices"
	"testing"

	"missive/api"
	"missive/bag"
)

// Rules that hold everywhere

// given is what is handed in: a call takes of it what it needs.
type given struct {
	l   []api.Parcel
	b   []byte
	now uint32
	i   int
}

// answer is what a call answers, all of it.
type answer struct {
	l  []api.Parcel
	p  api.Parcel
	i  int
	ok bool
}

// copied are the parcels in other memory.
func copied(l []api.Parcel) []api.Parcel {
	l = slices.Clone(l)
	for i, p := range l {
		l[i].Bytes = bytes.Clone(p.Bytes)
	}
	return l
}

func (a answer) copied() answer {
	a.l, a.p.Bytes = copied(a.l), bytes.Clone(a.p.Bytes)
	return a
}

func (a answer) is(b answer) bool {
	return sameBag(a.l, b.l) && same(a.p, b.p) && a.i == b.i && a.ok == b.ok
}

// call is one of the package's, and what is handed in.
type call struct {
	what string
	given
	do func(g given) answer
}

func lays(g given) answer {
	l, ok := bag.Lay(g.l, g.b, g.now)
	return answer{l: l, ok: ok}
}

func takes(g given) answer {
	l, p, ok := bag.Take(g.l, g.i)
	return answer{l: l, p: p, ok: ok}
}

func doubles(g given) answer {
	l, ok := bag.Double(g.l, g.i)
	return answer{l: l, ok: ok}
}

func ripens(g given) answer { return answer{i: bag.Ripe(g.l, g.now), ok: true} }

// calls are some of each: those that are done, and those that are refused.
func calls() (done, refused []call) {
	d := drawer(20)
	some, full, over := d.parcels(5), d.parcels(64), d.parcels(70)
	good, nowhere := d.packet(1, 19), d.packet(1, 4)
	some[2].Bytes = nil
	return []call{
		{"Lay", given{l: some, b: good, now: 9}, lays},
		{"Lay of the first one", given{b: good}, lays},
		{"Lay of the last one", given{l: full[:63], b: good, now: math.MaxUint32}, lays},
		{"Take of the first one", given{l: some}, takes},
		{"Take of the last one", given{l: some, i: 4}, takes},
		{"Take of one without bytes", given{l: some, i: 2}, takes},
		{"Take of the only one", given{l: some[:1]}, takes},
		{"Take of too many", given{l: over, i: 65}, takes},
		{"Double of the first one", given{l: some}, doubles},
		{"Double of the last one", given{l: some, i: 4}, doubles},
		{"Double of one without bytes", given{l: some, i: 2}, doubles},
		{"Double of the last that has room", given{l: full[:63], i: 62}, doubles},
		{"Ripe", given{l: some, now: 1 << 31}, ripens},
		{"Ripe of too many", given{l: over, now: 1 << 31}, ripens},
		{"Ripe of those that aren't due", given{l: some}, ripens},
		{"Ripe of none", given{}, ripens},
	}, []call{
		{"Lay of bytes", given{l: some, b: []byte("bytes")}, lays},
		{"Lay of nothing", given{l: some}, lays},
		{"Lay of nothing on nothing", given{}, lays},
		{"Lay to nobody", given{l: some, b: nowhere}, lays},
		{"Lay without room", given{l: full, b: good}, lays},
		{"Lay on too many", given{l: over, b: good}, lays},
		{"Take behind the end", given{l: some, i: 5}, takes},
		{"Take ahead of the beginning", given{l: some, i: -1}, takes},
		{"Take of none", given{}, takes},
		{"Double behind the end", given{l: some, i: 5}, doubles},
		{"Double ahead of the beginning", given{l: some, i: -1}, doubles},
		{"Double of none", given{}, doubles},
		{"Double without room", given{l: full, i: 3}, doubles},
		{"Double of too many", given{l: over, i: 3}, doubles},
	}
}

func allCalls() []call {
	done, refused := calls()
	return slices.Concat(done, refused)
}

// behind is the list, and behind it a lot of x in its spare room.
func behind[T any](l []T, x T) []T {
	return slices.Concat(l, slices.Repeat([]T{x}, 20))[:len(l)]
}

// roomy is all that is given in memory of its own, with spare room behind its lists in which something lies.
func (g given) roomy() given {
	g.l, g.b = slices.Clone(g.l), behind(g.b, 77)
	for i, p := range g.l {
		g.l[i].Bytes = behind(p.Bytes, 78)
	}
	g.l = behind(g.l, api.Parcel{From: 79, Due: 80, Bytes: []byte{81}})
	return g
}

// whole is all that is given in other memory, with what lies in the spare room.
func (g given) whole() given {
	g.l, g.b = slices.Clone(g.l[:cap(g.l)]), bytes.Clone(g.b[:cap(g.b)])
	for i, p := range g.l {
		g.l[i].Bytes = bytes.Clone(p.Bytes[:cap(p.Bytes)])
	}
	return g
}

func (g given) is(h given) bool { return sameBag(g.l, h.l) && bytes.Equal(g.b, h.b) }

// spoil writes over the parcels, their bytes, and all the spare room.
func spoil(l []api.Parcel) {
	for i, p := range l[:cap(l)] {
		scrawl(p.Bytes)
		l[:cap(l)][i] = api.Parcel{From: 90, To: 91, Due: 92, Bytes: []byte{93}}
	}
}

func scrawl(b []byte) {
	for i := range b[:cap(b)] {
		b[:cap(b)][i] ^= 85
	}
}

// What is handed in, and its spare room, is left as it was; and neither kept nor shared.
func TestArgumentsAreLeft(t *testing.T) {
	for _, c := range allCalls() {
		g := c.roomy()
		was := g.whole()
		got := c.do(g)
		if !g.whole().is(was) {
			t.Fatalf("%s: what is handed in is changed", c.what)
		}
		want := got.copied()
		spoil(g.l)
		scrawl(g.b)
		if !got.is(want) {
			t.Fatalf("%s: the answer shares memory with what is handed in", c.what)
		}
		if !c.do(c.roomy()).is(want) {
			t.Fatalf("%s: what is handed in is kept", c.what)
		}
	}
}

// An answer may be written over, and put behind.
func TestAnswersAreNewMemory(t *testing.T) {
	for _, c := range allCalls() {
		g := c.roomy()
		was := g.whole()
		one, two := c.do(g), c.do(g)
		want := two.copied()
		spoil(one.l)
		scrawl(one.p.Bytes)
		if !g.whole().is(was) {
			t.Fatalf("%s: what is handed in shares memory with the answer", c.what)
		}
		if !two.is(want) || !c.do(g).is(want) {
			t.Fatalf("%s: two answers share memory", c.what)
		}
	}
}

// stretch is where a list stands in memory, its spare room with it.
type stretch struct{ from, to uintptr }

func of[T any](l []T) stretch {
	from := reflect.ValueOf(l).Pointer()
	return stretch{from, from + uintptr(cap(l))*reflect.TypeFor[T]().Size()}
}

// No two lists of one answer share memory, also where those that are handed in do: what was doubled may be written over while the other one stays.
func TestListsOfAnAnswerAreApart(t *testing.T) {
	for _, c := range allCalls() {
		for _, shared := range []bool{false, true} {
			g := c.roomy()
			if shared {
				for i := range g.l {
					g.l[i].Bytes = g.b
				}
			}
			got := c.do(g)
			lists := []stretch{of(got.l), of(got.p.Bytes)}
			for _, p := range got.l {
				lists = append(lists, of(p.Bytes))
			}
			lists = slices.DeleteFunc(lists, func(s stretch) bool { return s.from == s.to })
			slices.SortFunc(lists, func(a, b stretch) int { return int(int64(a.from) - int64(b.from)) })
			for i := 1; i < len(lists); i++ {
				if lists[i].from < lists[i-1].to {
					t.Fatalf("%s: two lists share memory", c.what)
				}
			}
		}
	}
}

// Nothing lies in a list's spare room: neither a parcel that was taken nor bytes of one.
func TestNothingLiesBehind(t *testing.T) {
	for _, c := range allCalls() {
		got := c.do(c.roomy())
		for _, p := range got.l[len(got.l):cap(got.l)] {
			if !same(p, api.Parcel{}) {
				t.Fatalf("%s: behind the list there is %v", c.what, p)
			}
		}
		for _, p := range append(got.l, got.p) {
			for _, b := range p.Bytes[len(p.Bytes):cap(p.Bytes)] {
				if b != 0 {
					t.Fatalf("%s: behind the bytes there is %d", c.what, b)
				}
			}
		}
	}
}

// The same done twice answers the same; nil and empty are one, and the spare room is nothing.
func TestTheSameAgain(t *testing.T) {
	for _, c := range allCalls() {
		want := c.do(c.given)
		if again := c.do(c.given); !again.is(want) {
			t.Errorf("%s: done once more it answers otherwise", c.what)
		}
		g := c.roomy()
		g.l = append([]api.Parcel{}, g.l...)
		for i, p := range g.l {
			g.l[i].Bytes = append([]byte{}, p.Bytes...)
		}
		if other := c.do(g); !other.is(want) {
			t.Errorf("%s: of empty lists it answers otherwise", c.what)
		}
	}
}

// Beside a false the bag is given back as it is, and no parcel.
func TestBesideAFalse(t *testing.T) {
	done, refused := calls()
	for _, c := range done {
		if got := c.do(c.given); !got.ok {
			t.Errorf("%s: refused", c.what)
		}
	}
	for _, c := range refused {
		if got := c.do(c.given); got.ok || !sameBag(got.l, c.l) || !same(got.p, api.Parcel{}) {
			t.Errorf("%s: %t, and a bag of %d", c.what, got.ok, len(got.l))
		}
	}
}

// Whatever is handed in, each call ends.
func TestTotal(t *testing.T) {
	d := drawer(21)
	for range 3000 {
		l := d.parcels(d.below(80))
		b := d.text(1 + d.below(120))
		switch d.below(3) {
		case 0:
			b = d.packet(byte(d.below(256)), byte(d.below(256)))
		case 1:
			b = d.packet(d.node(), d.node())
		}
		if d.below(4) == 0 {
			b[d.below(len(b))] ^= byte(d.below(256))
		}
		now, i := uint32(d.below(1<<31))*2, d.below(160)-40
		lay(t, l, b, now)
		take(t, l, i)
		double(t, l, i)
		ripest(t, l, now)
	}
}
