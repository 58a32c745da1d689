package world_test

import (
	"testing"

	"missive/api"
)

// T4: it arrives, whatever was lost, doubled and late, whatever died, and whatever keys the servers took.
func TestItArrives(t *testing.T) {
	t.Parallel()
	total := 0
	for n, c := range settings(true) {
		if c.Servers*c.Devices < 2 || testing.Short() && n%4 > 0 {
			continue
		}
		d := drawer(n + 7)
		o := quiet()
		o[api.ActDrop], o[api.ActDouble], o[api.ActSay], o[api.ActPass] = of(&d, []int{2, 10, 30}), of(&d, []int{2, 10, 30}), of(&d, []int{5, 10, 50}), of(&d, []int{2, 10, 50})
		w := watch(t, c)
		for _, e := range all(c) {
			w.run(e)
		}
		for range 400 {
			w.run(d.entry(c, o, w.World))
		}
		things := 0
		for _, a := range devices(c) {
			for _, b := range devices(c) {
				things += len(w.Said(a, b))
			}
		}
		heard := 0
		for rounds := 0; rounds < 200+14*things && heard < things; rounds += 5 {
			w.Calm(5)
			heard = w.inOrder()
		}
		if heard != things {
			t.Errorf("%v: of %d things said %d are heard", c, things, heard)
		}
		total += things
	}
	if total < 100 {
		t.Error("too little was said:", total)
	}
}

// New keys ahead of each talk, and between: what is said is heard of servers with up to four keys.
func TestItArrivesByNewKeys(t *testing.T) {
	t.Parallel()
	for _, c := range []api.Setting{free(2, 1, 0), free(2, 1, 1), free(4, 1, 3), real(3, 1, 1)} {
		w := friends(t, c)
		far := byte(4 * (c.Servers - 1))
		for n := range 5 {
			want := api.OK
			if n == 4 {
				want = api.ErrCount
			}
			not(t, w, want, rotate(0))
			not(t, w, want, rotate(far/4))
			do(t, w, say(0, far, "there"), say(far, 0, "back"))
			w.Calm(14)
			if len(w.Heard(far, 0)) != n+1 || len(w.Heard(0, far)) != n+1 {
				t.Error(c, n, "it isn't heard")
			}
		}
		if r := w.Relay(0); len(r.Chain) != 4 || r.Turning || len(r.Chain[3].Vouches) != int(c.Need) {
			t.Error(c, r.Chain)
		}
	}
}
