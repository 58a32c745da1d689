package world_test

import (
	"encoding/binary"
	"testing"

	"missive/account"
	"missive/api"
	"missive/suite"
	"missive/world"
)

// P26.1, and what a world is at its beginning

func TestNewErrors(t *testing.T) {
	l := []int{-1 << 63, -1<<32 + 1, -1, 0, 1, 2, 3, 4, 5, 6, 16, 255, 256, 257, 1<<32 + 1, 1<<63 - 1}
	for _, servers := range l {
		for _, devices := range l {
			for need := range 256 {
				if need > 6 && need < 250 && need%16 != 0 {
					continue
				}
				c := api.Setting{Servers: servers, Devices: devices, Need: byte(need), Free: true}
				right := servers >= 1 && servers <= 4 && devices >= 1 && devices <= 4 && need < servers
				w, e := world.New(c)
				if right != (e == api.OK) || right != (w != nil) || !right && e != api.ErrArg {
					t.Fatal(c, e)
				}
			}
		}
	}
}

// name is that of the free suite's term of that number.
func name(n int) (k api.Key) {
	copy(k[:], "term")
	binary.BigEndian.PutUint32(k[4:], uint32(n))
	return k
}

// Servers' secrets and signers come first, server by server, and then what the devices are, one by one.
func TestNewTerms(t *testing.T) {
	w := begun(t, free(2, 2, 1))
	terms := w.Suite().Terms()
	type term struct {
		kind int
		part api.Key
	}
	want := []term{
		{1, api.Key{0, 1, 0}}, {5, name(1)}, {1, api.Key{0, 1, 1}}, {5, name(3)},
	}
	for _, d := range []byte{0, 1, 4, 5} {
		n := len(want)
		want = append(want, term{1, api.Key{0, 2, d}}, term{1, api.Key{0, 3, d}}, term{1, api.Key{0, 4, d}}, term{2, name(n + 1)}, term{5, name(n + 2)})
	}
	for i, x := range want {
		kind, parts, ok := terms.Of(name(i + 1))
		if !ok || kind != x.kind || len(parts) != 1 || string(parts[0]) != string(x.part[:]) {
			t.Errorf("the term %d is of the kind %d, of %v", i+1, kind, parts)
		}
	}
	if terms.Len() != len(want) {
		t.Errorf("%d terms", terms.Len())
	}
}

// What nodes are at the beginning, in both suites: all of it that isn't named is zero.
func TestNewNodes(t *testing.T) {
	for _, isFree := range []bool{true, false} {
		c := api.Setting{Servers: 3, Devices: 2, Need: 2, Free: isFree}
		w := begun(t, c)
		s := suite.Free()
		if !isFree {
			s = suite.Real()
		}
		cache := api.Cache{Need: 2}
		var first [4]api.Key
		for i := range byte(3) {
			first[i] = s.Fresh(api.Key{0, 1, i})
			cache.First[i] = s.Signer(first[i])
		}
		var relays [4]api.Relay
		for _, d := range devices(c) {
			x := account.New(s, api.Key{0, 2, d}, api.Key{0, 3, d}, api.Key{0, 4, d})
			h := &relays[d/4].Homes[d%4]
			h.Agree, h.Signer = account.Public(s, x)
			if !alike(w.Client(d), api.Client{Device: d, Account: x, Cache: cache}) {
				t.Error("the device", d, w.Client(d))
			}
		}
		for i := range byte(3) {
			r := &relays[i]
			r.Server, r.Secret, r.First, r.Cache = i, first[i], first[i], cache
			if !alike(w.Relay(i), *r) {
				t.Error("the server", i, w.Relay(i))
			}
		}
		nothing(t, c, w)
	}
}

// nothing fails, if something was done in the world.
func nothing(t *testing.T, c api.Setting, w *world.World) {
	t.Helper()
	if len(w.Bag()) > 0 || len(w.Seen()) > 0 || len(w.Held()) > 0 {
		t.Error("something is on the way, was seen or is held")
	}
	there := map[byte]bool{}
	for _, n := range nodes(c) {
		there[n] = true
	}
	for n := range 256 {
		i := byte(n)
		if w.Down(i) == there[i] {
			t.Error("Down", i)
		}
		if n >= 16 && !alike(w.Relay(i), api.Relay{}) || n < 16 && there[i] == alike(w.Relay(i), api.Relay{}) {
			t.Error("Relay", i)
		}
		if n >= 16 && !alike(w.Client(i), api.Client{}) || n < 16 && there[16+i] == alike(w.Client(i), api.Client{}) {
			t.Error("Client", i)
		}
		for m := range 256 {
			if len(w.Said(i, byte(m))) > 0 || len(w.Heard(i, byte(m))) > 0 {
				t.Error("Said or Heard", n, m)
			}
		}
	}
}

// The clock is 0: what is laid first is due at one tick and however far it goes.
func TestNewClock(t *testing.T) {
	w := begun(t, free(2, 1, 0))
	do(t, w, tick(16))
	if l := w.Bag(); len(l) != 1 || l[0].Due != 1 {
		t.Error(l)
	}
	not(t, w, api.ErrNone, ripe())
	do(t, w, clock(), ripe())
}

// A world of a suite has that one, and its own.
func TestNewSuite(t *testing.T) {
	a, b := begun(t, free(1, 1, 0)), begun(t, free(1, 1, 0))
	if a.Suite().Terms() == nil || a.Suite().Terms() == b.Suite().Terms() {
		t.Error("two worlds have one table")
	}
	do(t, a, tick(16))
	if a.Suite().Terms().Len() == b.Suite().Terms().Len() {
		t.Error("what is made in one world is made in another one")
	}
	if begun(t, real(1, 1, 0)).Suite() != suite.Real() {
		t.Error("the suite isn't real")
	}
}
