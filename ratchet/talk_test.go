package ratchet_test

import (
	"fmt"
	"slices"
	"testing"

	"missive/api"
	"missive/ratchet"
	"missive/suite"
)

// P18.5, P18.6

// flight is a letter on the way to an end.
type flight struct {
	letter
	to     int
	text   string
	opened bool
}

// talk is of two ends that began with the same shared secret.
type talk struct {
	asker
	drawer
	ends [2]api.Session
	way  []*flight
}

func (a asker) talk(d drawer) *talk {
	t := &talk{asker: a, drawer: d}
	t.ends[0], t.ends[1] = a.pair()
	return t
}

// left is how many letters to an end haven't been opened.
func (t *talk) left(to int) (n int) {
	for _, f := range t.way {
		if f.to == to && !f.opened {
			n++
		}
	}
	return n
}

// say seals a letter of an end.
func (t *talk) say(from int) {
	t.Helper()
	text := fmt.Sprint(from, " says ", len(t.way))
	h, body := t.wrote(&t.ends[from], t.key(), text)
	t.way = append(t.way, &flight{letter: letter{h, body}, to: 1 - from, text: text})
}

// come opens a letter at the end to which it is: it must be what it was, and once.
func (t *talk) come(f *flight) {
	t.Helper()
	now, plain, e := t.open(t.ends[f.to], f.Header, f.body)
	switch {
	case f.opened && e == api.OK:
		t.Fatalf("%q is opened twice", f.text)
	case !f.opened && (e != api.OK || string(plain) != f.text):
		t.Fatalf("%q is opened as %q, error %d", f.text, plain, e)
	}
	f.opened = true
	t.ends[f.to] = now
}

// spoil brings a letter to the wrong end, or another one's body with it, or something changed: it must be refused.
func (t *talk) spoil(f, other *flight) {
	t.Helper()
	at, h, body := f.to, f.Header, slices.Clone(f.body)
	switch t.below(6) {
	case 0:
		at = 1 - at
	case 1:
		if f == other {
			return
		}
		body = other.body
	case 2:
		body = turned(body, t.below(8*len(body)))
	case 3:
		h.Ratchet = other.Ratchet
		h.N++
	case 4:
		h.N += uint16(t.below(20) + 1)
	case 5:
		h.Prev += uint16(t.below(20) + 1)
	}
	was := copied(t.ends[at])
	now, plain, e := t.open(t.ends[at], h, body)
	if e == api.OK || len(plain) != 0 || !same(now, was) || !same(t.ends[at], was) {
		t.Fatalf("what is spoilt is opened as %q, error %d", plain, e)
	}
}

// drawn is a row of so many of all that, then all that is left comes.
func (t *talk) drawn(steps int) {
	t.Helper()
	for range steps {
		from := t.below(2)
		f := func() *flight { return t.way[max(len(t.way)-1-t.below(20), 0)] }
		switch n := t.below(12); {
		case n < 5 || len(t.way) == 0:
			// So no more than MaxSkip keys must be kept.
			if t.left(1-from) <= api.MaxSkip {
				t.say(from)
			}
		case n < 9:
			t.come(f())
		case n < 10:
			t.come(t.way[t.below(len(t.way))])
		default:
			t.spoil(f(), t.way[t.below(len(t.way))])
		}
		if len(t.ends[0].Kept) > api.MaxSkip || len(t.ends[1].Kept) > api.MaxSkip {
			t.Fatalf("%d and %d keys are kept", len(t.ends[0].Kept), len(t.ends[1].Kept))
		}
	}
	for len(t.way) > 0 {
		at := t.below(len(t.way))
		t.come(t.way[at])
		t.come(t.way[at])
		t.way = slices.Delete(t.way, at, at+1)
	}
	if n := len(t.ends[0].Kept) + len(t.ends[1].Kept); n != 0 {
		t.Fatalf("all has come, and %d keys are kept", n)
	}
}

func TestTalks(t *testing.T) {
	talks := 40
	if testing.Short() {
		talks = 10
	}
	for i := range talks {
		for _, a := range askers(t) {
			a.talk(drawer(i)).drawn(20 + 3*i)
		}
	}
}

// However a row is turned round: each of 120 orders of five letters, of two rows and of one.
func TestAllOrders(t *testing.T) {
	for _, a := range askers(t) {
		for cut := range 6 {
			step := 1
			if a.count() == 0 {
				step = 13 // all of them take seconds to reckon
			}
			for order := 0; order < 120; order += step {
				k := a.talk(drawer(order))
				for range cut {
					k.say(0)
				}
				k.say(1)
				k.come(k.way[cut])
				k.way = k.way[:cut]
				for range 5 - cut {
					k.say(0)
				}
				rest := slices.Clone(k.way)
				for n := order; len(rest) > 0; {
					at := n % len(rest)
					n /= len(rest)
					k.come(rest[at])
					rest = slices.Delete(rest, at, at+1)
				}
				for _, f := range k.way {
					k.come(f)
				}
			}
		}
	}
}

// Beyond MaxSkip keys a letter waits till others have come.
func TestTooManyOnTheWay(t *testing.T) {
	for _, a := range askers(t) {
		k := a.talk(7)
		for range 18 {
			k.say(0)
		}
		last := k.way[17]
		k.refuses("a letter too far", k.ends[1], last.Header, last.body, api.ErrFar)
		k.come(k.way[16])
		k.refuses("a letter beside too many", k.ends[1], k.way[17].Header, turned(last.body, 1), api.ErrOpen)
		k.come(last)
		// Those of the row ahead count as well.
		k.say(1)
		k.come(k.way[18])
		for range 2 {
			k.say(0)
		}
		k.refuses("the second letter of the next row", k.ends[1], k.way[20].Header, k.way[20].body, api.ErrFar)
		k.come(k.way[3])
		k.come(k.way[20])
		for _, f := range k.way {
			k.come(f)
		}
	}
}

// A row can be gone to its end; then nothing more is sealed in it, but when the other end has answered.
func TestRowsEnd(t *testing.T) {
	for _, a := range askers(t) {
		k := a.talk(8)
		k.ends[0].Send.N, k.ends[1].Recv.N = 65530, 65530
		for range 5 {
			k.say(0)
		}
		_, _, _, e := k.seal(k.ends[0], api.Key{}, nil)
		k.is("Seal behind the end", e, api.ErrCount)
		k.come(k.way[4])
		h := k.way[4].Header
		h.N = 65535
		k.refuses("a letter behind the end", k.ends[1], h, nil, api.ErrCount)
		k.say(1)
		k.come(k.way[5])
		k.say(0)
		if h := k.way[6].Header; h.Prev != 65535 || h.N != 0 {
			t.Fatalf("behind the end: %v", h)
		}
		for _, f := range k.way {
			k.come(f)
		}
	}
}

// What is kept from step to step by its bytes does the same.
func TestTalksByBytes(t *testing.T) {
	for _, a := range askers(t) {
		k := a.talk(9)
		for i := range 60 {
			if n := k.below(3); n < 2 && k.left(1-n) < 17 {
				k.say(n)
			} else if len(k.way) > 0 {
				k.come(k.way[k.below(len(k.way))])
			}
			b, ok := ratchet.Pack(k.ends[i%2])
			x, also := ratchet.Unpack(b)
			if !ok || !also {
				t.Fatalf("Pack and Unpack: %t %t", ok, also)
			}
			k.ends[i%2] = x
		}
	}
}

// Two sessions, of other secrets or of other numbers, have nothing in common.
func TestSessionsAside(t *testing.T) {
	for _, a := range askers(t) {
		x, y := a.pair()
		h, body := a.wrote(&x, api.Key{}, "text")
		z := a.join(run(0), run(101), y.Theirs)
		a.refuses("another secret's letter", z, h, body, api.ErrOpen)
		z = a.join(run(1), run(100), y.Theirs)
		a.refuses("another number's letter", z, h, body, api.ErrArg)
		h.Session = run(1)
		a.refuses("a letter under another number", z, h, body, api.ErrOpen)
		z = a.join(run(0), run(100), run(3))
		a.refuses("a letter of another ratchet key", z, a.headerOf(x), body, api.ErrKey)
	}
}

// headerOf is that of the session's next letter.
func (a asker) headerOf(x api.Session) api.Header {
	a.Helper()
	_, h, _, e := a.seal(x, api.Key{}, nil)
	a.is("Seal", e, api.OK)
	return h
}

// secrets are those of a session.
func secrets(x api.Session) (l []api.Key) {
	l = []api.Key{x.Root, x.Mine, x.Send.Key, x.Recv.Key}
	for _, k := range x.Kept {
		l = append(l, k.Key)
	}
	return slices.DeleteFunc(l, func(k api.Key) bool { return k == api.Key{} })
}

// begun are two ends of a free suite, begun with secrets that nobody else has.
func begun(s suite.Suite) [2]api.Session {
	id, shared := s.Fresh(api.Key{1}), s.Fresh(api.Key{2})
	x := ratchet.Begin(s, id, shared, api.Key{3})
	return [2]api.Session{x, ratchet.Join(s, id, shared, s.Public(x.Mine))}
}

// chat goes on with both ends by turns, so many letters; each fifth one is lost. It tells what is seen of it, and which keys are secret.
func chat(t *testing.T, s suite.Suite, ends *[2]api.Session, d *drawer, n int) (seen [][]byte, hidden []api.Key, all []letter) {
	t.Helper()
	for i := range n {
		from := i / 2 % 2
		text := s.Fresh(d.key())
		was := copied(ends[from])
		now, h, body, e := ratchet.Seal(s, ends[from], d.key(), text[:])
		if e != api.OK {
			t.Fatalf("Seal: %d", e)
		}
		ends[from] = now
		seen = append(seen, headed(h), body)
		all = append(all, letter{h, body})
		hidden = append(append(append(hidden, text), secrets(was)...), secrets(now)...)
		if i%5 == 4 {
			continue
		}
		now, plain, e := ratchet.Open(s, ends[1-from], h, body)
		if e != api.OK || string(plain) != string(text[:]) {
			t.Fatalf("Open: %x %d", plain, e)
		}
		ends[1-from] = now
		hidden = append(hidden, secrets(now)...)
	}
	return seen, hidden, all
}

// In the free suite: of all that goes over the net nothing is known of what was said, nor of any secret; and the key by which an end would open whatever header is known to nobody else.
func TestNothingIsKnown(t *testing.T) {
	s, d := suite.Free(), drawer(10)
	ends := begun(s)
	seen, hidden, all := chat(t, s, &ends, &d, 40)
	own := s.Fresh(api.Key{99})
	public := s.Public(own)
	seen = append(seen, own[:], public[:])
	for range 2000 {
		x := ends[d.below(2)]
		h := all[d.below(len(all))].Header
		switch d.below(4) {
		case 0:
			h.Ratchet = public
		case 1:
			h.Ratchet = all[d.below(len(all))].Ratchet
		case 2:
			h.Ratchet = api.Key(d.text(32))
		}
		h.N, h.Prev = uint16(d.below(12)), uint16(d.below(12))
		tried(func() { hidden = append(hidden, model{s}.found(&x, h)) })
	}
	known := s.Terms().Known(seen)
	for _, k := range hidden {
		if known.Has(k[:]) {
			t.Fatalf("the secret %x is known", k[:8])
		}
	}
	if !known.Has(public[:]) || !known.Has(all[3].Ratchet[:]) {
		t.Fatal("what was seen isn't known")
	}
}

// Who gets all secrets of both ends knows nothing that was opened before (the keys of what is lost are kept yet); and who got them once knows nothing any more, when both have answered with new keys.
func TestBeforeAndBehind(t *testing.T) {
	s, d := suite.Free(), drawer(11)
	ends := begun(s)
	texts := func(all []letter) (l []api.Key) {
		for _, x := range all {
			_, parts, _ := s.Terms().Of(api.Key(x.body[:32]))
			l = append(l, api.Key(parts[1]))
		}
		return l
	}
	before, _, old := chat(t, s, &ends, &d, 24)
	held := append(secrets(ends[0]), secrets(ends[1])...)
	between, _, next := chat(t, s, &ends, &d, 8)
	behind, _, late := chat(t, s, &ends, &d, 24)
	seen := slices.Concat(before, between, behind)
	for _, k := range held {
		seen = append(seen, k[:])
	}
	known := s.Terms().Known(seen)
	for i, k := range texts(old) {
		if known.Has(k[:]) != (i%5 == 4) {
			t.Errorf("of what was said before, the letter %d: known %t", i, i%5 != 4)
		}
	}
	if k := texts(next)[0]; !known.Has(k[:]) {
		t.Error("what is said just behind isn't known, so the secrets are none")
	}
	for i, k := range texts(late) {
		if known.Has(k[:]) {
			t.Errorf("of what was said long behind, the letter %d is known", i)
		}
	}
}
