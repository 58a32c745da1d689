package world_test

import (
	"testing"

	"missive/api"
	"missive/world"
)

// T6: the same script does the same.

// shape is what of a world doesn't hang on its suite.
type shape struct {
	errors      []api.Errno
	said, heard [][][]byte
	down        []bool
	way         []api.Parcel
	seen        []int
}

func shapeOf(c api.Setting, w *world.World, came []api.Errno) (x shape) {
	x.errors = came
	for _, a := range devices(c) {
		for _, b := range devices(c) {
			x.said, x.heard = append(x.said, w.Said(a, b)), append(x.heard, w.Heard(a, b))
		}
	}
	for n := range 256 {
		x.down = append(x.down, w.Down(byte(n)))
	}
	for _, p := range w.Bag() {
		p.Bytes = make([]byte, len(p.Bytes))
		x.way = append(x.way, p)
	}
	for _, b := range w.Seen() {
		x.seen = append(x.seen, len(b))
	}
	return x
}

func (x shape) is(y shape) bool {
	return alike(x.errors, y.errors) && alike(x.said, y.said) && alike(x.heard, y.heard) && alike(x.down, y.down) && alike(x.way, y.way) && alike(x.seen, y.seen)
}

// The same script, done twice, does the same, whatever is asked meanwhile.
func TestTheSameAgain(t *testing.T) {
	for _, c := range []api.Setting{free(2, 2, 1), free(3, 1, 0), real(2, 1, 1)} {
		d := drawer(77)
		size := 500
		if !c.Free {
			size = 100
		}
		w, m := watch(t, c), begun(t, c)
		for range size {
			e := d.entry(c, usual(), w.World)
			if x := w.run(e); m.Do(e) != x {
				t.Fatal(e, x)
			}
		}
		w.Calm(3)
		m.Calm(3)
		if !alike(w.Bag(), m.Bag()) || !alike(w.Seen(), m.Seen()) || !alike(w.Held(), m.Held()) || !sameEverything(everything(c, w.World), everything(c, m)) {
			t.Error("it is another world", c)
		}
	}
}

// The real suite does what the free one does: the same errors, the same is said and heard, the same goes the same way at the same time, as long.
func TestRealAsFree(t *testing.T) {
	t.Parallel()
	for n, c := range settings(true) {
		if c.Servers*c.Devices < 2 || n%4 != 1 || testing.Short() && n > 10 {
			continue
		}
		d := drawer(900 + n)
		w := watch(t, c)
		for _, e := range all(c) {
			w.run(e)
		}
		for range 150 {
			w.run(d.entry(c, usual(), w.World))
		}
		other := c
		other.Free = false
		v := watch(t, other)
		for _, e := range w.done {
			v.run(e)
		}
		if !shapeOf(c, v.World, v.came).is(shapeOf(c, w.World, w.came)) {
			t.Error("not the same:", c)
		}
		v.Calm(2)
		w.Calm(2)
		if !shapeOf(c, v.World, nil).is(shapeOf(c, w.World, nil)) || len(v.Held()) != len(w.Held()) {
			t.Error("not the same behind Calm:", c)
		}
	}
}

// T2's other half: of what is said hangs neither whither nor when anything goes, nor how long it is.
func TestWhatIsSaidIsNotSeen(t *testing.T) {
	for n, c := range settings(true) {
		if c.Servers*c.Devices < 2 || n%2 == 1 {
			continue
		}
		d, other := drawer(300+n), drawer(4000)
		w, v := watch(t, c), watch(t, c)
		for i := range 300 {
			e := api.Entry{}
			if l := all(c); i < len(l) {
				e = l[i]
			} else {
				e = d.entry(c, usual(), w.World)
			}
			// The same length, and in neither a name's beginning.
			x := e
			if e.Kind == api.ActSay {
				x.Text = other.text(len(e.Text))
				for i, b := range x.Text {
					if b == 't' {
						x.Text[i] = 'T'
					}
				}
				for i, b := range e.Text {
					if b == 't' {
						e.Text[i] = 'T'
					}
				}
			}
			if got := v.run(x); got != w.run(e) {
				t.Fatal(e, got)
			}
		}
		a, b := shapeOf(c, w.World, nil), shapeOf(c, v.World, nil)
		a.said, b.said, a.heard, b.heard = nil, nil, nil, nil
		if !a.is(b) {
			t.Error("not the same:", c)
		}
	}
}
