package foe_test

import (
	"bytes"
	"slices"
	"strings"
	"testing"

	"missive/api"
	"missive/foe"
	"missive/suite"
)

// P25.2

// others are those whom the foe listens to: their secrets, and what goes between them.
type others struct {
	secrets [][]byte // of nobody but themselves
	held    []api.Key
	seen    [][]byte
}

// lay is a text of what is said in clear, joined with a lot of else.
func (o *others) lay(l ...[]byte) { o.seen = append(o.seen, of(l...)) }

// talk is what four do who have each a secret, and of whom the foe holds the last one's: each pair agrees, signs, and seals a secret and a key for the next pair.
func talk(s suite.Suite, d *drawer) (o others) {
	var l []api.Key
	for range 4 {
		k := s.Fresh(d.key())
		l = append(l, k)
		p, q := s.Public(k), s.Signer(k)
		o.lay(p[:], q[:], d.text(d.below(9)))
	}
	o.held = l[3:]
	for i, a := range l {
		for j, b := range l[:i] {
			said := s.Fresh(d.key())
			shared, _ := s.Agree(a, s.Public(b))
			key, _ := s.Mix(byte(d.below(4)), shared[:])
			next, _ := s.Mix(byte(d.below(4)), key[:])
			sealed, _ := s.Seal(key, of(said[:], d.text(d.below(9))))
			again, _ := s.Seal(next, sealed)
			sig := s.Sign(a, sealed)
			o.lay(sealed, sig[:])
			o.lay(again)
			o.seen = append(o.seen, sig[:], said[:0], again)
			if i < 3 && j < 3 {
				o.secrets = append(o.secrets, said[:], shared[:], key[:], next[:])
			}
		}
	}
	for _, k := range l[:3] {
		o.secrets = append(o.secrets, bytes.Clone(k[:]))
	}
	return o
}

// step is one that may be done behind these, or may not.
func (d *drawer) step(l []api.Step, o others) api.Step {
	place := func() int { return d.below(len(l) + 1) }
	x := api.Step{Kind: 1 + d.below(13), A: place(), B: place(), N: d.below(4)}
	switch x.Kind {
	case api.FoeOpen:
		// By the key with which it was sealed, if the foe did that itself.
		if n := slices.IndexFunc(l, func(y api.Step) bool { return y.Kind == api.FoeSeal }); n >= 0 && d.below(4) > 0 {
			x.A, x.B = l[n].A, n
		}
	case api.FoeWrite:
		x.Bytes = []byte(strings.Repeat("term\x00\x00\x00\x05", 3)[d.below(9):][:d.below(9)])
	case api.FoeSeen:
		x.N = d.below(len(o.seen))
	case api.FoeJoin, api.FoeMix:
		for range d.below(4) {
			x.Parts = append(x.Parts, place())
		}
	}
	return x
}

// begin are steps by which something that was seen may come open: with the secret that the foe holds, another one's public key, and a label.
func (d *drawer) begin(o others) []api.Step {
	return []api.Step{held(0), seen(d.below(4)), piece(1, 0), agree(0, 2), mix(d.below(4), 3), seen(4 + d.below(len(o.seen)-4)), piece(5, 0), open(4, 6), piece(7, 0)}
}

// attempt is a row of as many steps as there may be, all of which can be done, or of as many as were found.
func (d *drawer) attempt(s suite.Suite, o others) (steps []api.Step, made [][]byte) {
	first := d.begin(o)
	for n := range 400 {
		if len(steps) == api.MaxSteps {
			break
		}
		x := d.step(steps, o)
		// Where one of the first ones can't be done, those behind it stand by what comes in its place.
		if n < len(first) {
			x = first[n]
		}
		if b, ok := foe.Cook(s, with(steps, x), o.seen, o.held); ok {
			steps, made = append(steps, x), append(made, b)
		}
	}
	return steps, made
}

// sources is what a foe has: what it has seen, what it holds, its own secrets.
func sources(s suite.Suite, o others) (l [][]byte) {
	l = slices.Clone(o.seen)
	for _, k := range o.held {
		l = append(l, bytes.Clone(k[:]))
	}
	for n := range 4 {
		k := s.Fresh(api.Key{0, 251, 0, byte(n)})
		l = append(l, k[:])
	}
	return l
}

// Whatever is cooked is known; nothing comes to be known by it, and least of all what nobody but the others should know.
func TestWhatIsCookedIsKnown(t *testing.T) {
	var done [14]int
	for seed := range drawer(60) {
		d, s := seed+100, suite.Free()
		o := talk(s, &d)
		var all [][]byte
		for range 4 {
			steps, made := d.attempt(s, o)
			for i, x := range steps {
				done[x.Kind]++
				all = append(all, made[i])
			}
		}
		l := sources(s, o)
		known := s.Terms().Known(l)
		for _, b := range all {
			if !known.Has(b) {
				t.Fatalf("what is cooked isn't known: %x", head(b))
			}
		}
		more := s.Terms().Known(slices.Concat(l, all))
		for n := 1; n <= s.Terms().Len(); n++ {
			k := named(n)
			if known.Has(k[:]) != more.Has(k[:]) {
				t.Fatalf("the name %d is known by what was cooked", n)
			}
		}
		for _, b := range o.secrets {
			if known.Has(b) || more.Has(b) {
				t.Fatalf("%x is known", head(b))
			}
		}
	}
	for kind := 1; kind <= 13; kind++ {
		if done[kind] < 40 {
			t.Errorf("of the kind %d there were %d", kind, done[kind])
		}
	}
}

// What was seen of those whose secret the foe holds can be opened; what the others seal for one another can't.
func TestWhoHoldsASecret(t *testing.T) {
	s := suite.Free()
	k := &kitchen{t: t, one: s, two: suite.Free(), terms: new(int)}
	a, b := both(k, func(s suite.Suite) api.Key { return s.Fresh(api.Key{1}) }), both(k, func(s suite.Suite) api.Key { return s.Fresh(api.Key{2}) })
	said := both(k, func(s suite.Suite) api.Key { return s.Fresh(api.Key{3}) })
	p := both(k, func(s suite.Suite) api.Key { return s.Public(b) })
	sealed := both(k, func(s suite.Suite) []byte {
		shared, _ := s.Agree(a, p)
		key, _ := s.Mix(1, shared[:])
		b, _ := s.Seal(key, of(said[:], []byte("hi")))
		return b
	})
	k.seen = [][]byte{of(p[:], sealed)}
	steps := []api.Step{seen(0), piece(0, 0), piece(0, 1), held(0), agree(3, 1), mix(1, 4), open(5, 2), piece(6, 0), piece(6, 1)}
	k.own = []api.Key{a}
	k.is(said[:], steps[:8]...)
	k.is([]byte("hi"), steps...)
	k.own = []api.Key{p}
	k.not(steps...)
	k.own = []api.Key{said}
	k.not(steps...)
	steps[3] = fresh(0)
	k.not(steps...)
	w := s.Terms().Known(k.seen)
	if w.Has(said[:]) || !w.Has(p[:]) {
		t.Error("what was said is known")
	}
}

// However literals are joined, no name comes of them: neither in one of them, nor where two meet, nor with the lengths between.
func TestNoNamesAreWritten(t *testing.T) {
	s := suite.Free()
	for n := range 700 {
		s.Fresh(api.Key{byte(n >> 8), byte(n), 7})
	}
	d := drawer(77)
	done := 0
	for range 4000 {
		var steps []api.Step
		for range 2 + d.below(5) {
			b := []byte("ermtermt\x00\x00\x00\x01\x00\x00\x00\x00\x00\x00\x00\x00\x00")[d.below(9):][:d.below(13)]
			if d.below(3) == 0 {
				b = zeros(d.below(13))
			}
			steps = append(steps, write(string(b)))
		}
		for n := len(steps); n < 12; n++ {
			var l []int
			for range d.below(17) {
				l = append(l, d.below(n))
			}
			steps = append(steps, join(l...))
		}
		b, ok := foe.Cook(s, steps, nil, nil)
		if !ok {
			continue
		}
		done++
		if l := s.Terms().In(b); len(l) > 0 {
			t.Fatalf("by %v there comes a name: %x", steps, head(b))
		}
	}
	if done < 400 {
		t.Errorf("just %d were cooked", done)
	}
}

// If the mark could be written, empty pieces would do the rest: this row of steps would make the name of the first term.
func TestTheMarkIsNotWritten(t *testing.T) {
	k := free(t)
	name := both(k, func(s suite.Suite) api.Key { return s.Fresh(api.Key{1}) })
	k.not(write("term\x00\x00\x00\x01\x00\x00\x00\x00"), write(""), join(0, 1, 1, 1, 1, 1, 1, 1, 1, 1, 1))
	// What was seen may have it, as it stands there.
	k.seen = [][]byte{name[:]}
	k.is(name[:], seen(0))
}
