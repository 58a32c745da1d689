package world_test

import (
	"slices"
	"testing"

	"missive/api"
	"missive/world"
)

// What a foe holds.

// hold fails, unless that is held.
func hold(t *testing.T, w *world.World, want ...api.Key) {
	t.Helper()
	if got := w.Held(); !slices.Equal(got, want) {
		t.Errorf("%d keys are held: %v instead of %d: %v", len(got), got, len(want), want)
	}
}

// Of a server: the first secret, the one by which it signs, and the one that is turning, each once, behind each step from then on.
func TestHeldOfAServer(t *testing.T) {
	for _, c := range both(2, 1, 1) {
		w := begun(t, c)
		do(t, w, take(0))
		first := w.Relay(0).First
		hold(t, w, first)
		do(t, w, take(0), tick(0), rotate(0))
		turning := w.Relay(0).TurnSecret
		hold(t, w, first, turning)
		w.Calm(3)
		if r := w.Relay(0); r.Turning || r.Secret != turning {
			t.Fatal("it is turning still")
		}
		hold(t, w, first, turning)
		do(t, w, rotate(1)) // another one, which isn't the foe's
		hold(t, w, first, turning)
	}
}

// As it is at the moment from which it is the foe's: what was ahead of that isn't held.
func TestHeldFromThenOn(t *testing.T) {
	for _, c := range both(3, 1, 0) {
		w := begun(t, c)
		do(t, w, rotate(1), rotate(1))
		r := w.Relay(1)
		do(t, w, take(1))
		hold(t, w, r.First, r.Secret)
		do(t, w, take(0))
		first := w.Relay(0).First
		hold(t, w, r.First, r.Secret, first)
		do(t, w, rotate(1), rotate(0))
		hold(t, w, r.First, r.Secret, first, w.Relay(1).Secret, w.Relay(0).Secret)
	}
}

// keys are those of a device, in order, without those that are zero.
func keys(c api.Client) (l []api.Key) {
	x := c.Account
	all := []api.Key{x.Agree, x.Sign, x.Fallback.Secret}
	for _, o := range x.Left {
		all = append(all, o.Secret)
	}
	for _, p := range c.Peers {
		for _, y := range p.Sessions {
			all = append(all, y.Root, y.Mine, y.Send.Key, y.Recv.Key)
			for _, k := range y.Kept {
				all = append(all, k.Key)
			}
		}
	}
	for _, k := range all {
		if k != (api.Key{}) {
			l = append(l, k)
		}
	}
	return l
}

// Of a device: what it agrees and signs by, its keys that are handed out, and of its sessions all keys, peer by peer.
func TestHeldOfADevice(t *testing.T) {
	for _, c := range both(2, 2, 0) {
		w := begun(t, c)
		do(t, w, trust(0, 4), trust(4, 0), trust(1, 0), trust(0, 1), say(0, 4, "one"), say(4, 0, "two"), say(1, 0, "three"), say(0, 1, "four"))
		for range 9 {
			w.Calm(1)
		}
		do(t, w, steal(0))
		want := keys(w.Client(0))
		hold(t, w, want...)
		if len(want) < 12 {
			t.Error("no sessions:", len(want))
		}
		do(t, w, say(0, 4, "five"), say(4, 0, "six"), say(1, 0, "seven"))
		for range 15 {
			w.Do(tick(16))
			w.Do(tick(20))
			w.Do(tick(17))
			w.Do(clock())
			for _, n := range servers(c) {
				w.Do(tick(n))
			}
			was := len(w.Bag())
			for range was {
				w.Do(ripe())
				for _, k := range keys(w.Client(0)) {
					if !slices.Contains(want, k) {
						want = append(want, k)
					}
				}
			}
			for _, k := range keys(w.Client(0)) {
				if !slices.Contains(want, k) {
					want = append(want, k)
				}
			}
		}
		if got := w.Held(); len(got) != len(want) {
			t.Error(len(got), len(want))
		}
		for _, k := range want {
			if held(w, k) < 0 {
				t.Error("it isn't held:", k)
			}
		}
		if l := w.Held(); len(slices.Compact(slices.SortedFunc(slices.Values(l), func(a, b api.Key) int { return slices.Compare(a[:], b[:]) }))) != len(l) {
			t.Error("a key is held twice")
		}
	}
}

// A step whose disk died is held when it is known to be done.
func TestHeldOfWhatHung(t *testing.T) {
	c := free(1, 1, 0)
	ahead := []api.Entry{take(0)}
	for f := 0; ; f++ {
		w := done(t, c, append(ahead, fuse(0, f), rotate(0))...)
		if !w.Down(0) {
			break
		}
		first := w.Relay(0).First
		hold(t, w, first)
		do(t, w, start(0, 99))
		if r := w.Relay(0); len(r.Chain) == 0 {
			hold(t, w, first)
		} else {
			hold(t, w, first, r.Secret)
		}
	}
}

// What is stolen from one that is down is what it was when it died.
func TestHeldOfOneThatIsDown(t *testing.T) {
	w := begun(t, free(1, 1, 0))
	do(t, w, fuse(0, 0))
	not(t, w, api.ErrDead, rotate(0))
	do(t, w, take(0), steal(0))
	x := w.Client(0).Account
	hold(t, w, w.Relay(0).First, x.Agree, x.Sign, x.Fallback.Secret)
}

// The keys that a stolen device keeps for letters that haven't come are held as well: its server, which is the foe's too, brings it the third letter first.
func TestHeldOfWhatIsKept(t *testing.T) {
	for _, c := range both(2, 1, 0) {
		w := friends(t, c)
		w.Calm(6)
		do(t, w, take(1), say(0, 4, "one"), say(0, 4, "two"), say(0, 4, "three"))
		for range 12 {
			do(t, w, tick(0), tick(1), tick(16))
			for len(w.Bag()) > 0 {
				do(t, w, pass(0))
			}
		}
		do(t, w, tick(20), drop(0), steal(4))
		want := w.Held()
		posted := letters(w, 4)
		if len(posted) != 3 {
			t.Fatal("posted:", len(posted))
		}
		r, x := &recipe{}, w.Client(4)
		secret := r.own(held(w, w.Relay(1).Secret))
		item := r.join(r.write(api.ItemLetter), r.letter(posted[2]))
		reply := r.join(r.number(x.Seq), r.write(0), r.number(x.Since+1), item)
		r.packet(secret, 1, 20, api.PackReply, r.write(0), reply)
		do(t, w, r.entry(20))
		y := w.Client(4).Peers[0].Sessions[0]
		if len(y.Kept) != 2 {
			t.Fatal("kept:", len(y.Kept))
		}
		for _, k := range keys(w.Client(4)) {
			if !slices.Contains(want, k) {
				want = append(want, k)
			}
		}
		hold(t, w, want...)
		if held(w, y.Kept[0].Key) < 0 || held(w, y.Kept[1].Key) < 0 {
			t.Error("what is kept isn't held")
		}
	}
}
