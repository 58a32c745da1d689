package world_test

import (
	"bytes"
	"slices"
	"testing"

	"missive/api"
	"missive/foe"
	"missive/world"
)

// T5: whatever bytes come.

// all that nodes are, and what they said and heard.
func everything(c api.Setting, w *world.World) (l []any) {
	for _, n := range nodes(c) {
		l = append(l, state(w, n))
	}
	for _, a := range devices(c) {
		for _, b := range devices(c) {
			l = append(l, w.Said(a, b), w.Heard(a, b))
		}
	}
	return l
}

func sameEverything(a, b []any) bool {
	return slices.EqualFunc(a, b, alike)
}

// What is brought is taken, or an error is told and all is as it was; and one who holds nothing is refused, if it doesn't bring what was seen as it is.
func TestWhateverComes(t *testing.T) {
	t.Parallel()
	refused, taken, made := 0, 0, 0
	for n, c := range settings(true) {
		if c.Servers*c.Devices < 2 || c.Servers*c.Devices > 6 {
			continue
		}
		d := drawer(500 + n)
		w := friends(t, c)
		foes := n%2 == 1
		if foes {
			do(t, w, take(0), steal(0))
		}
		for range 160 {
			w.Do(d.entry(c, quiet(), w))
			e := d.seenAgain(w, true)
			switch d.below(8) {
			case 0:
				e = forge(of(&d, nodes(c)), d.steps()...)
			case 1, 2:
				e = d.forged(c, w)
			}
			seen, was := w.Seen(), everything(c, w)
			bag := len(w.Bag())
			x := w.Do(e)
			if x != api.OK {
				refused++
				if !sameEverything(everything(c, w), was) || len(w.Bag()) != bag || len(w.Seen()) > len(seen)+1 {
					t.Fatal("it was refused, and something changed:", e, x)
				}
			}
			if len(w.Seen()) == len(seen) {
				continue
			}
			made++
			b := w.Seen()[len(seen)]
			again := slices.ContainsFunc(seen, func(s []byte) bool { return bytes.Equal(s, b) })
			if x == api.OK {
				taken++
				if !foes && !again {
					t.Fatal("something was taken that nobody sent:", e)
				}
			}
		}
	}
	t.Log(refused, taken, made)
	if refused < 1000 || taken < 50 || made < 1000 {
		t.Error("too little came:", refused, taken, made)
	}
}

// A packet that was seen with one of its pieces in another one's place, or with fewer pieces, is refused, if it isn't the same again.
func TestPiecesElsewhere(t *testing.T) {
	t.Parallel()
	c := free(2, 1, 0)
	w := done(t, c, life(t, c)...)
	was, count := everything(c, w), 0
	bring := func(n int, places ...int) {
		r := &recipe{}
		a := r.seen(n)
		var l []int
		for _, i := range places {
			l = append(l, r.piece(a, i))
		}
		r.join(l...)
		seen := w.Seen()
		b, ok := foe.Cook(w.Suite(), r.steps, seen, nil)
		if !ok || slices.ContainsFunc(seen, func(s []byte) bool { return bytes.Equal(s, b) }) {
			return
		}
		count++
		for _, to := range nodes(c) {
			if w.Do(r.entry(to)) == api.OK {
				t.Fatal("taken:", n, places, to)
			}
		}
	}
	for n := 0; n < 60; n += 3 {
		whole := []int{0, 1, 2, 3, 4, 5}
		for i := range 6 {
			bring(n, whole[:i]...)
			for j := range 6 {
				l := slices.Clone(whole)
				l[i] = j
				bring(n, l...)
				bring(n, append(l, j)...)
			}
		}
	}
	if !sameEverything(everything(c, w), was) || count < 500 {
		t.Error("something changed, or too little came", count)
	}
}

// Every call ends and doesn't panic, whatever it is given.
func TestTotal(t *testing.T) {
	for n, c := range []api.Setting{free(1, 1, 0), free(4, 4, 3), real(2, 1, 1)} {
		d := drawer(n)
		w := friends(t, c)
		for range 3000 {
			e := api.Entry{Kind: byte(d.below(256)), Who: byte(d.below(256)), Peer: byte(d.below(256)), N: of(&d, []int{-1 << 63, -1, 0, 1, 7, 63, 64, 1 << 31, 1<<63 - 1}), Text: d.text(d.below(100)), Steps: d.steps()}
			if d.below(3) > 0 {
				e.Kind = byte(1 + d.below(14))
			}
			if d.below(3) > 0 {
				e.Who = of(&d, nodes(c))
			}
			w.Do(e)
			w.Down(e.Who)
			w.Said(e.Who, e.Peer)
			w.Heard(e.Who, e.Peer)
			w.Relay(e.Who)
			w.Client(e.Who)
			if n < 2 && d.below(200) == 0 {
				w.Calm(d.below(4) - 1)
			}
		}
		w.Bag()
		w.Seen()
		w.Held()
	}
}
