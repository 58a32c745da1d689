package world_test

import (
	"testing"

	"missive/api"
)

// P26.3

// So many rounds, none of a number below 1.
func TestCalmRounds(t *testing.T) {
	for _, n := range []int{-1 << 63, -1, 0, 1, 2, 7, 40} {
		w := begun(t, free(2, 1, 0))
		w.Calm(n)
		if got := w.Relay(1).Clock; got != uint32(max(n, 0)) {
			t.Errorf("%d rounds instead of %d", got, n)
		}
	}
}

func TestCalmOfManyRounds(t *testing.T) {
	for _, n := range []int{999, 1000, 1001, 1 << 40, 1<<63 - 1} {
		if testing.Short() && n != 1001 {
			continue
		}
		w := begun(t, free(1, 1, 0))
		w.Calm(n)
		if got := w.Relay(0).Clock; got != uint32(min(n, 1000)) {
			t.Errorf("%d rounds instead of %d", got, n)
		}
	}
}

// No disk dies any more, and who is down is started.
func TestCalmDisks(t *testing.T) {
	for _, rounds := range []int{0, 1, 3} {
		c := free(2, 1, 0)
		w := begun(t, c)
		do(t, w, fuse(0, 0), fuse(1, 0), fuse(16, 3))
		not(t, w, api.ErrDead, tick(0))
		w.Calm(rounds)
		if w.Down(0) != (rounds == 0) {
			t.Error("the one that was down:", rounds)
		}
		do(t, w, tick(1), tick(16), tick(16), start(0, 0))
		for _, n := range nodes(c) {
			do(t, w, tick(n))
			if w.Down(n) {
				t.Error("down:", n)
			}
		}
	}
}

// No round starts nobody: what waits on the disk of one that is down waits still.
func TestCalmOfNoRound(t *testing.T) {
	c := free(1, 1, 0)
	f := lastWrite(t, c, nil, 0, rotate(0))
	w := done(t, c, fuse(0, f), rotate(0))
	w.Calm(0)
	do(t, w, start(0, 99))
	if len(w.Relay(0).Chain) != 1 {
		t.Error("it waits no more")
	}
}

// Of what waits on the disk of one that is down nothing is kept.
func TestCalmStartsWithNothing(t *testing.T) {
	c := free(1, 1, 0)
	for f := 0; ; f++ {
		w := done(t, c, fuse(0, f), rotate(0))
		if !w.Down(0) {
			break
		}
		w.Calm(1)
		if r := w.Relay(0); len(r.Chain) != 0 || r.Clock != 1 {
			t.Error(f, "it was kept")
		}
	}
}

// Servers tick first, then devices, by rising numbers; and all that they send is seen in that order, ahead of what comes of it.
func TestCalmOrder(t *testing.T) {
	c := free(4, 4, 0)
	w := begun(t, c)
	w.Calm(1)
	l := w.Seen()
	for i, d := range devices(c) {
		if l[i][3] != 16+d {
			t.Errorf("packet %d is of the node %d", i, l[i][3])
		}
	}
	if len(l) != 32 || len(w.Bag()) != 0 {
		t.Error(len(l), len(w.Bag()))
	}
}

// All that is on the way arrives in a round, be the bag full of it: each of these is answered, and the answers take a tick.
func TestCalmOfAFullBag(t *testing.T) {
	c := free(4, 1, 0)
	w, m := begun(t, c), modelOf(c)
	both := func(e api.Entry) {
		if x := w.Do(e); x != m.do(e) {
			t.Fatal(e, x)
		}
	}
	for range 3 {
		both(tick(16))
		for len(w.Bag()) < 64 {
			both(double(0))
		}
		both(clock())
		both(clock())
		w.Calm(1)
		m.calm(1)
		m.holds(t, w)
		if len(w.Bag()) > 0 {
			t.Error("something is on the way")
		}
	}
}

// The clock is brought to what is due: a thing that goes far arrives in the same round.
func TestCalmClock(t *testing.T) {
	c := free(4, 1, 0)
	w := begun(t, c)
	do(t, w, trust(0, 12), trust(12, 0), say(0, 12, "far"))
	w.Calm(1)
	if len(w.Bag()) > 0 {
		t.Error("something is on the way")
	}
	w.Calm(12)
	hears(t, w, 12, 0, "far")
}
