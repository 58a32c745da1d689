package foe_test

import (
	"bytes"
	"math"
	"slices"
	"testing"

	"missive/api"
	"missive/foe"
	"missive/suite"
)

// Rules that hold everywhere

// given is what is handed in, but for the suite.
type given struct {
	what  string
	steps []api.Step
	seen  [][]byte
	own   []api.Key
}

func (g given) cook(s suite.Suite) ([]byte, bool) { return foe.Cook(s, g.steps, g.seen, g.own) }

// rows are some: those that can be done end with each kind, the others with what can't be.
func rows() (done, refused []given) {
	d := drawer(40)
	l := [][]byte{d.text(40), of(d.text(3), d.text(4)), d.text(32), nil, zeros(9000)}
	own := []api.Key{d.key(), d.key()}
	ahead := []api.Step{write("text"), seen(0), seen(1), held(0), fresh(3), public(3), seal(4, 1)}
	for what, x := range map[string]api.Step{"Write": write("bytes"), "Write of nothing": write(""), "Seen": seen(0), "Seen of nothing": seen(3), "Piece": piece(2, 1), "Join": join(1, 0, 2), "Join of nothing": join(), "Fresh": fresh(9), "Public": public(4), "Signer": signer(4), "Agree": agree(4, 5), "Sign": sign(3, 1), "Mix": mix(7, 0, 1), "Seal": seal(3, 0), "Open": open(4, 6), "Own": held(1)} {
		done = append(done, given{what, with(ahead, x), l, own})
	}
	for what, x := range map[string]api.Step{"Write of a mark": write("a term"), "Seen behind the end": seen(5), "Seen of too much": seen(4), "Piece of none": piece(1, 0), "Join of what isn't there": join(0, 7), "Fresh of too much": fresh(70000), "Public of no key": public(0), "Signer of no key": signer(0), "Agree of no key": agree(3, 0), "Sign by no key": sign(0, 0), "Mix of no label": mix(256, 0), "Seal by no key": seal(0, 0), "Open of nothing": open(4, 1), "Own behind the end": held(2), "no kind": {Kind: 14}} {
		refused = append(refused, given{what, with(ahead, x), l, own})
	}
	first := given{"the first step", []api.Step{seen(2)}, l, own}
	return append(done, first), append(refused, given{"no steps", nil, l, own}, given{"too many steps", slices.Repeat(ahead[:1], 33), l, own})
}

func all() []given {
	done, refused := rows()
	return slices.Concat(done, refused)
}

// suites are one of each kind, to which nothing was done.
func suites() []suite.Suite { return []suite.Suite{suite.Free(), suite.Real()} }

// behind is the list in memory of its own, and behind it a lot of x in its spare room.
func behind[T any](l []T, x T) []T {
	return slices.Concat(l, slices.Repeat([]T{x}, 20))[:len(l)]
}

// roomy is all that is given in memory of its own, with spare room behind its lists in which something lies.
func (g given) roomy() given {
	g.steps, g.seen, g.own = behind(g.steps, api.Step{Kind: 99}), behind(g.seen, []byte{77}), behind(g.own, api.Key{78})
	for i, x := range g.steps {
		g.steps[i].Bytes, g.steps[i].Parts = behind(x.Bytes, 79), behind(x.Parts, 80)
	}
	for i, b := range g.seen {
		g.seen[i] = behind(b, 81)
	}
	return g
}

// whole is all that is given in other memory, with what lies in the spare room.
func (g given) whole() given {
	g.steps, g.seen, g.own = slices.Clone(g.steps[:cap(g.steps)]), slices.Clone(g.seen[:cap(g.seen)]), slices.Clone(g.own[:cap(g.own)])
	for i, x := range g.steps {
		g.steps[i].Bytes, g.steps[i].Parts = slices.Clone(x.Bytes[:cap(x.Bytes)]), slices.Clone(x.Parts[:cap(x.Parts)])
	}
	for i, b := range g.seen {
		g.seen[i] = slices.Clone(b[:cap(b)])
	}
	return g
}

func (g given) is(h given) bool {
	return sameLists(g.seen, h.seen) && slices.Equal(g.own, h.own) && slices.EqualFunc(g.steps, h.steps, func(x, y api.Step) bool {
		return x.Kind == y.Kind && x.A == y.A && x.B == y.B && x.N == y.N && bytes.Equal(x.Bytes, y.Bytes) && slices.Equal(x.Parts, y.Parts)
	})
}

// spoil writes over all that is given, and all spare room.
func (g given) spoil() {
	for i, x := range g.steps[:cap(g.steps)] {
		scrawl(x.Bytes)
		for j := range x.Parts[:cap(x.Parts)] {
			x.Parts[:cap(x.Parts)][j] = 90
		}
		g.steps[:cap(g.steps)][i] = api.Step{Kind: 91}
	}
	for _, b := range g.seen[:cap(g.seen)] {
		scrawl(b)
	}
	for i := range g.own[:cap(g.own)] {
		g.own[:cap(g.own)][i] = api.Key{92}
	}
}

func scrawl(b []byte) {
	for i := range b[:cap(b)] {
		b[:cap(b)][i] ^= 85
	}
}

// What is handed in, and its spare room, is left as it was; and neither kept nor shared.
func TestArgumentsAreLeft(t *testing.T) {
	for _, row := range all() {
		for _, s := range suites() {
			g := row.roomy()
			was := g.whole()
			got, ok := g.cook(s)
			if !g.whole().is(was) {
				t.Fatalf("%s: what is handed in is changed", row.what)
			}
			want := bytes.Clone(got)
			g.spoil()
			if !bytes.Equal(got, want) {
				t.Fatalf("%s: the answer shares memory with what is handed in", row.what)
			}
			if again, done := row.roomy().cook(s); !bytes.Equal(again, want) || done != ok {
				t.Fatalf("%s: what is handed in is kept", row.what)
			}
		}
	}
}

// An answer may be written over, and put behind.
func TestAnswersAreNewMemory(t *testing.T) {
	for _, row := range all() {
		for _, s := range suites() {
			g := row.roomy()
			was := g.whole()
			one, _ := g.cook(s)
			two, _ := g.cook(s)
			want := bytes.Clone(two)
			for _, x := range one[len(one):cap(one)] {
				if x != 0 {
					t.Fatalf("%s: behind the answer there is %d", row.what, x)
				}
			}
			scrawl(one)
			if !g.whole().is(was) {
				t.Fatalf("%s: what is handed in shares memory with the answer", row.what)
			}
			if again, _ := g.cook(s); !bytes.Equal(two, want) || !bytes.Equal(again, want) {
				t.Fatalf("%s: two answers share memory", row.what)
			}
		}
	}
}

// The same done twice answers the same, and makes nothing more; so it does in another suite to which the same was done, nil and empty being one, and the spare room nothing.
func TestTheSameAgain(t *testing.T) {
	for _, row := range all() {
		for i, s := range suites() {
			want, ok := row.cook(s)
			terms := count(s)
			if again, done := row.cook(s); !bytes.Equal(again, want) || done != ok || count(s) != terms {
				t.Errorf("%s: done once more it answers otherwise", row.what)
			}
			g := row.roomy()
			for i, x := range g.steps {
				g.steps[i].Bytes, g.steps[i].Parts = append([]byte{}, x.Bytes...), append([]int{}, x.Parts...)
			}
			for i, b := range g.seen {
				g.seen[i] = append([]byte{}, b...)
			}
			other := suites()[i]
			if again, done := g.cook(other); !bytes.Equal(again, want) || done != ok || count(other) != terms {
				t.Errorf("%s: of empty lists it answers otherwise", row.what)
			}
		}
	}
	for _, s := range suites() {
		b, ok := foe.Cook(s, []api.Step{}, [][]byte{}, []api.Key{})
		c, done := foe.Cook(s, []api.Step{write("a")}, nil, nil)
		if ok || len(b) != 0 || !done || string(c) != "a" {
			t.Errorf("of nothing: %x %t, %x %t", b, ok, c, done)
		}
	}
}

func count(s suite.Suite) int {
	if s.Terms() == nil {
		return 0
	}
	return s.Terms().Len()
}

// Beside a false there is nothing.
func TestBesideAFalse(t *testing.T) {
	done, refused := rows()
	for _, s := range suites() {
		for _, row := range done {
			if _, ok := row.cook(s); !ok {
				t.Errorf("%s: refused", row.what)
			}
		}
		for _, row := range refused {
			if b, ok := row.cook(s); ok || b != nil {
				t.Errorf("%s: %x %t", row.what, b, ok)
			}
		}
	}
}

// odd is a number that is now and then any at all.
func (d *drawer) odd(n int) int {
	switch d.below(20) {
	case 0:
		return []int{-1, math.MinInt, math.MaxInt, 1 << 32, 65535, 65536, 255, 256}[d.below(8)]
	case 1:
		return n + d.below(40)
	}
	return d.below(n + 1)
}

// any is a step of any fields.
func (d *drawer) any(n int) api.Step {
	x := api.Step{Kind: d.odd(13), A: d.odd(n), B: d.odd(n), N: d.odd(4), Bytes: d.text(d.below(14))}
	for range d.below(10) {
		x.Parts = append(x.Parts, d.odd(n))
	}
	return x
}

// Whatever is handed in, each call ends, and answers by the words.
func TestTotal(t *testing.T) {
	for name, k := range kitchens(t) {
		d := drawer(41)
		// The real suite takes its time over each step.
		for range map[string]int{"free": 300, "real": 6}[name] {
			k.seen, k.own = nil, nil
			for range d.below(6) {
				k.seen = append(k.seen, [][]byte{d.text(d.below(100)), of(d.text(d.below(40)), d.text(32)), d.text(32), sized(1 + d.below(8198)), zeros(d.below(9000))}[d.below(5)])
				k.own = append(k.own, []api.Key{d.key(), named(d.below(30)), {byte(d.below(3))}}[d.below(3)])
			}
			// What can be done stays, so that there is something to go on with.
			var steps []api.Step
			for range 120 {
				x := d.any(len(steps))
				if _, ok := k.cook(with(steps, x)...); ok {
					steps = append(steps, x)
				}
			}
		}
	}
}
