package world_test

import (
	"testing"

	"missive/api"
	"missive/wire"
	"missive/world"
)

// Nodes that die, and start anew: T3.

// done is a world in which these entries were done, or refused.
func done(t testing.TB, c api.Setting, l ...api.Entry) *world.World {
	t.Helper()
	w := begun(t, c)
	for _, e := range l {
		w.Do(e)
	}
	return w
}

// life is a script in which two devices find one another, talk and hear, and a server takes a new key.
func life(t testing.TB, c api.Setting) (l []api.Entry) {
	w := begun(t, c)
	add := func(e api.Entry) {
		w.Do(e)
		l = append(l, e)
	}
	for _, e := range []api.Entry{trust(0, 4), trust(4, 0), say(0, 4, "one"), say(0, 4, "two"), say(4, 0, "back"), rotate(1)} {
		add(e)
	}
	for round := range 9 {
		for _, n := range nodes(c) {
			add(tick(n))
		}
		if round == 6 {
			add(say(0, 4, "three"))
		}
		for len(w.Bag()) > 0 {
			add(pass(0))
		}
	}
	if len(w.Heard(4, 0)) < 2 || len(w.Heard(0, 4)) < 1 || len(w.Relay(1).Chain) != 1 {
		t.Fatal("not much of a life")
	}
	return l
}

// who is the node whose step an entry is.
func who(w *world.World, e api.Entry) byte {
	switch e.Kind {
	case api.ActTick, api.ActRotate:
		return e.Who
	case api.ActPass:
		return w.Bag()[e.N].To
	}
	return 16 + e.Who
}

// state is what a node is.
func state(w *world.World, n byte) any {
	if n < 16 {
		return w.Relay(n)
	}
	return w.Client(n - 16)
}

// logs are all that the devices 0 and 4 said and heard.
func logs(w *world.World) [][][]byte {
	return [][][]byte{w.Said(0, 4), w.Said(4, 0), w.Heard(0, 4), w.Heard(4, 0)}
}

// A node that dies at whatever write, with whatever beginning of what waited kept, is as it was ahead of the step, or behind it, and so are the logs; all else is as it was.
func TestWholeOrNotAtAll(t *testing.T) {
	t.Parallel()
	c := free(2, 1, 1)
	script := life(t, c)
	ahead, behind := 0, 0
	for i, e := range script {
		if i%4 > 0 || testing.Short() && i%3 > 0 {
			continue
		}
		was := done(t, c, script[:i]...)
		n := who(was, e)
		is := done(t, c, append(script[:i:i], fuse(n, -1), e)...)
		for f := 0; ; f++ {
			dies := append(script[:i:i], fuse(n, f), e)
			w := done(t, c, dies...)
			if !w.Down(n) {
				break
			}
			if !alike(w.Seen(), was.Seen()) || !alike(state(w, n), state(was, n)) || !alike(logs(w), logs(was)) {
				t.Fatal(i, f, "something was done")
			}
			for _, keep := range []int{0, f - 1, 99} {
				w := done(t, c, append(dies, start(n, keep))...)
				if w.Down(n) || !alike(w.Seen(), was.Seen()) {
					t.Fatal(i, f, keep, "it is down, or something was sent")
				}
				switch {
				case alike(state(w, n), state(was, n)) && alike(logs(w), logs(was)):
					ahead++
				case alike(state(w, n), state(is, n)) && alike(logs(w), logs(is)):
					behind++
				default:
					t.Fatal(i, f, keep, "neither ahead nor behind")
				}
				if f == 2 || keep == 99 {
					arrives(t, w)
				}
			}
		}
	}
	t.Log(ahead, behind)
	if ahead < 100 || behind < 10 {
		t.Error("too little died:", ahead, behind)
	}
}

// arrives fails, unless all is heard at last that was said.
func arrives(t *testing.T, w *world.World) {
	t.Helper()
	w.Calm(40)
	if !alike(w.Heard(4, 0), w.Said(0, 4)) || !alike(w.Heard(0, 4), w.Said(4, 0)) {
		t.Fatal("not all is heard")
	}
}

// lastWrite is the greatest fuse with which a node dies at an entry: at its last sync.
func lastWrite(t *testing.T, c api.Setting, ahead []api.Entry, n byte, e api.Entry) int {
	for f := 0; ; f++ {
		if !done(t, c, append(ahead[:len(ahead):len(ahead)], fuse(n, f), e)...).Down(n) {
			return f - 1
		}
	}
}

// What hangs is noted once, and at the first start alone.
func TestHangs(t *testing.T) {
	c := free(2, 1, 0)
	w := begun(t, c)
	do(t, w, trust(0, 4), fuse(16, lastWrite(t, c, []api.Entry{trust(0, 4)}, 16, say(0, 4, "x"))))
	not(t, w, api.ErrDead, say(0, 4, "x"))
	said(t, w, 0, 4)
	do(t, w, start(16, 9))
	said(t, w, 0, 4, "x")
	do(t, w, start(16, 9), start(16, 0))
	said(t, w, 0, 4, "x")
	if p := w.Client(0).Peers; p[0].Told != 1 {
		t.Error(p)
	}
	// What came to nothing hangs no more, though the same is done then.
	do(t, w, fuse(16, 0))
	not(t, w, api.ErrDead, say(0, 4, "y"))
	do(t, w, start(16, 9), say(0, 4, "y"), start(16, 9), say(0, 4, "z"))
	said(t, w, 0, 4, "x", "y", "z")
}

// What was to be said is kept while it hangs, whatever is done meanwhile with what was handed in.
func TestHangsOfItsOwn(t *testing.T) {
	c := free(2, 1, 0)
	w := begun(t, c)
	e := say(0, 4, "text")
	do(t, w, trust(0, 4), fuse(16, lastWrite(t, c, []api.Entry{trust(0, 4)}, 16, e)))
	not(t, w, api.ErrDead, e)
	copy(e.Text, "xxxx")
	do(t, w, start(16, 99))
	said(t, w, 0, 4, "text")
	copy(e.Text, "yyyy")
	said(t, w, 0, 4, "text")
}

// A start of a node that isn't down takes the fuse, and changes nothing else.
func TestStartOfOneThatIsUp(t *testing.T) {
	c := free(2, 1, 1)
	w := done(t, c, life(t, c)...)
	for _, n := range nodes(c) {
		was, l := state(w, n), logs(w)
		do(t, w, fuse(n, 1), start(n, 5))
		if w.Down(n) || !alike(state(w, n), was) || !alike(logs(w), l) {
			t.Error("it is another one", n)
		}
		do(t, w, tick(n))
	}
	arrives(t, w)
}

// A dead disk stays dead whatever fuse it is given, and a start takes that.
func TestFuse(t *testing.T) {
	w := begun(t, free(1, 1, 0))
	do(t, w, fuse(0, 0), fuse(0, -1), tick(0), fuse(0, 1<<40), tick(0), fuse(0, 0))
	not(t, w, api.ErrDead, tick(0))
	do(t, w, fuse(0, -1))
	not(t, w, api.ErrDead, tick(0))
	do(t, w, fuse(0, 0), start(0, 0), tick(0))
	if w.Relay(0).Clock != 3 {
		t.Error(w.Relay(0).Clock)
	}
}

// A step by which nothing changes needs no disk: a device that waits for a reply sends its call once more.
func TestNothingChanges(t *testing.T) {
	w := begun(t, free(1, 1, 0))
	do(t, w, tick(16), fuse(16, 0), tick(16), tick(16))
	if w.Down(16) || len(w.Bag()) != 3 || len(w.Seen()) != 3 {
		t.Error("it was written")
	}
}

// How much is written by each step, and when a half of the disk is full, is as the words say: with one fuse or another the same steps die in the model.
func TestWrites(t *testing.T) {
	t.Parallel()
	c := free(1, 2, 0)
	w, m := begun(t, c), modelOf(c)
	d := drawer(6)
	died := map[byte]int{}
	both := func(e api.Entry) {
		if got, want := w.Do(e), m.do(e); got != want {
			t.Fatalf("%v: %d instead of %d", e, got, want)
		}
	}
	rounds := 2500
	if testing.Short() {
		rounds = 1200
	}
	both(trust(0, 1))
	both(trust(1, 0))
	for i := range rounds {
		for _, n := range nodes(c) {
			both(fuse(n, d.below(60)-1))
		}
		for _, e := range []api.Entry{say(0, 1, string(d.said())), tick(0), tick(16), tick(17), pass(0), pass(0), pass(0), pass(0)} {
			both(e)
			for _, n := range nodes(c) {
				if w.Down(n) {
					died[n]++
					both(start(n, d.below(40)))
				}
			}
		}
		if i%500 == 0 {
			m.holds(t, w)
		}
	}
	m.holds(t, w)
	t.Log(died, m.at[0].store.Epoch(), m.at[16].store.Epoch(), m.s.Terms().Len())
	if died[0] < 100 || died[16] < 100 || m.at[0].store.Epoch() < 5 || m.at[16].store.Epoch() < 5 {
		t.Error("too few died:", died)
	}
}

// T3: no one-time key is handed out twice, whatever dies: each that is given stands in one place of one inbox, and of one acknowledgement.
func TestKeysOnce(t *testing.T) {
	t.Parallel()
	given := 0
	for n, c := range settings(true) {
		if c.Servers*c.Devices < 3 || n%3 > 0 {
			continue
		}
		d := drawer(600 + n)
		w := friends(t, c)
		o := quiet()
		o[api.ActFuse], o[api.ActStart], o[api.ActSay], o[api.ActDouble], o[api.ActPass] = 8, 10, 30, 8, 15
		for range 500 {
			w.Do(d.entry(c, o, w))
		}
		w.Calm(20)
		inboxes, acks := map[[2]int][2]int{}, map[[2]int][3]int{}
		for _, b := range w.Seen() {
			p, _ := wire.GetPacket(b)
			r, _ := wire.GetReply(p.Body)
			for i, x := range r.Items {
				if p.Kind == api.PackReply && x.Kind == api.ItemGive && x.Bundle.Id > 0 {
					once(t, inboxes, x.Bundle, [2]int{int(p.To), int(r.From) + i})
					given++
				}
			}
			a, _ := wire.GetTrans(p.Body)
			for i, x := range a.Items {
				if p.Kind == api.PackAck && x.Kind == api.ItemGive && x.Bundle.Id > 0 {
					once(t, acks, x.Bundle, [3]int{int(p.To), int(a.Id), i})
				}
			}
		}
	}
	t.Log(given)
	if given < 50 {
		t.Error("few keys were given:", given)
	}
}

// once notes where a key is given, and fails, if it was given elsewhere.
func once[P comparable](t *testing.T, l map[[2]int]P, b api.Bundle, at P) {
	t.Helper()
	key := [2]int{int(b.Device), int(b.Id)}
	if was, ok := l[key]; ok && was != at {
		t.Fatal("the key", key, "was given twice:", was, at)
	}
	l[key] = at
}
