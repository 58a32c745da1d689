package world_test

import (
	"testing"

	"missive/api"
	"missive/world"
)

// heavy is a call by which a stolen device posts a letter that is nearly as long as may be.
func heavy(w *world.World, from, to byte) api.Entry {
	r, s := &recipe{}, from/4
	secret := r.own(held(w, w.Client(from).Account.Sign))
	header := r.piece(r.letter(letters(w, -1)[0]), 2)
	few := r.write([]byte("twelve bytes")...)
	many := r.join(few, few, few, few, few, few, few, few, few, few, few, few, few, few, few, few)
	letter := r.join(r.write(from), r.write(to), header, r.join(many, many, many))
	call := r.join(r.write(api.CallPost), r.number(w.Relay(s).Homes[from%4].Seq+1), letter)
	r.packet(secret, 16+from, s, api.PackCall, r.write(0), call)
	return r.entry(s)
}

// asks is a call by which a stolen device syncs, but has nothing of its inbox.
func asks(w *world.World, d byte) api.Entry {
	r, s := &recipe{}, d/4
	secret := r.own(held(w, w.Client(d).Account.Sign))
	call := r.join(r.write(api.CallSync), r.number(w.Relay(s).Homes[d%4].Seq+1), r.number(0))
	r.packet(secret, 16+d, s, api.PackCall, r.write(0), call)
	return r.entry(s)
}

// Where a server's disk has no room for all that it would be a step isn't done, and nothing of it comes out; it isn't down.
func TestNoRoomOnTheDisk(t *testing.T) {
	c := free(4, 4, 0)
	w, m := begun(t, c), modelOf(c)
	full := 0
	add := func(e api.Entry) {
		t.Helper()
		was, way := w.Relay(0), len(w.Bag())
		x := w.Do(e)
		if y := m.do(e); x != y {
			t.Fatal(e, x, y)
		}
		if x == api.ErrFull {
			full++
		}
		if x != api.OK && (w.Down(0) || !alike(w.Relay(0), was) || len(w.Bag()) != way) {
			t.Fatal("something was done", e, x)
		}
	}
	for d := range byte(4) {
		add(steal(d))
	}
	for _, e := range []api.Entry{trust(0, 1), trust(1, 0), say(0, 1, "x")} {
		add(e)
	}
	for range 7 {
		for d := range byte(4) {
			add(tick(16 + d))
			add(pass(0))
			add(pass(0))
		}
	}
	// First the inboxes, then the queues, then the replies.
	for _, to := range []byte{0, 1, 2, 3, 4, 8, 12} {
		for range 9 {
			add(heavy(w, 2, to))
		}
	}
	for range 10 {
		for d := range byte(4) {
			add(asks(w, d))
			add(tick(0))
		}
	}
	m.holds(t, w)
	r := w.Relay(0)
	for i := range 4 {
		if len(r.Homes[i].Inbox.Items) != 8 || i > 0 && len(r.Queues[i].Items) != 8 {
			t.Error("there is room", i, len(r.Homes[i].Inbox.Items), len(r.Queues[i].Items))
		}
	}
	t.Log(full)
	if full < 5 {
		t.Error("there was room on the disk:", full)
	}
	add(start(0, 0))
	add(tick(0))
	m.holds(t, w)
}
