package world_test

import (
	"slices"
	"testing"

	"missive/api"
)

// The chapter's examples, and the document's.

func both(servers, devices int, need byte) []api.Setting {
	return []api.Setting{free(servers, devices, need), real(servers, devices, need)}
}

func TestExampleOfTwo(t *testing.T) {
	for _, c := range both(2, 1, 0) {
		w := begun(t, c)
		do(t, w, trust(0, 4), trust(4, 0), say(0, 4, "one"))
		w.Calm(12)
		hears(t, w, 4, 0, "one")
		said(t, w, 0, 4, "one")
		hears(t, w, 0, 4)
		said(t, w, 4, 0)
	}
}

func TestExampleOfAFuse(t *testing.T) {
	for _, c := range both(2, 1, 0) {
		w := begun(t, c)
		for _, node := range nodes(c) {
			do(t, w, fuse(node, 0))
			not(t, w, api.ErrDead, tick(node))
			if !w.Down(node) {
				t.Error("it isn't down:", node)
			}
			do(t, w, start(node, 0), tick(node))
			if w.Down(node) {
				t.Error("it is down:", node)
			}
		}
	}
}

func TestExamplesOfErrors(t *testing.T) {
	for _, c := range both(2, 1, 1) {
		w := begun(t, c)
		not(t, w, api.ErrNone, tick(2))
		not(t, w, api.ErrNone, tick(17))
		not(t, w, api.ErrPeer, say(0, 4, ""))
		do(t, w, trust(0, 4))
		not(t, w, api.ErrArg, say(0, 4, "my term"))
		not(t, w, api.ErrArg, say(0, 4, "term"))
		for range 8 {
			do(t, w, say(0, 4, "x"))
		}
		not(t, w, api.ErrFull, say(0, 4, "x"))
		do(t, w, rotate(0))
		not(t, w, api.ErrBusy, rotate(0))
	}
}

func TestExampleOfATurningKey(t *testing.T) {
	for _, c := range both(2, 1, 1) {
		w := begun(t, c)
		do(t, w, rotate(0))
		if r := w.Relay(0); !r.Turning || len(r.Chain) != 0 {
			t.Error("it isn't turning")
		}
		w.Calm(4)
		if r := w.Relay(0); r.Turning || len(r.Chain) != 1 {
			t.Error("it is turning")
		}
	}
}

func TestExampleOfWhatIsHeld(t *testing.T) {
	for _, c := range both(2, 1, 0) {
		w := begun(t, c)
		do(t, w, take(1))
		if r := w.Relay(1); !slices.Equal(w.Held(), []api.Key{r.First}) || r.First != r.Secret {
			t.Error("held:", w.Held())
		}
		do(t, w, take(0))
		if l := []api.Key{w.Relay(1).First, w.Relay(0).First}; !slices.Equal(w.Held(), l) {
			t.Error("held:", w.Held())
		}
	}
}

// The first packet that was seen is the device 0's call; it isn't to the device 4.
func TestExampleOfWhatIsForged(t *testing.T) {
	for _, c := range both(2, 1, 0) {
		w := begun(t, c)
		do(t, w, tick(16))
		not(t, w, api.ErrArg, forge(20, api.Step{Kind: api.FoeSeen}))
		if l := w.Seen(); len(l) != 2 || string(l[0]) != string(l[1]) {
			t.Error("seen:", l)
		}
	}
}

// What is dropped again and again is heard once at last.
func TestExampleOfLoss(t *testing.T) {
	t.Parallel()
	for _, c := range both(2, 1, 0) {
		w := begun(t, c)
		do(t, w, trust(0, 4), trust(4, 0), say(0, 4, "one"), say(0, 4, "two"), say(4, 0, "three"))
		for range 20 {
			for _, node := range nodes(c) {
				do(t, w, tick(node), clock())
			}
			for n := len(w.Bag()); n > 0; n-- {
				if n%3 == 0 {
					do(t, w, pass(0))
				} else {
					do(t, w, drop(0))
				}
			}
		}
		w.Calm(200)
		hears(t, w, 4, 0, "one", "two")
		hears(t, w, 0, 4, "three")
	}
}
