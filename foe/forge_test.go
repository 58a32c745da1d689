package foe_test

import (
	"bytes"
	"testing"

	"missive/account"
	"missive/api"
	"missive/relay"
	"missive/suite"
	"missive/wire"
)

// What the suite lets anybody do a foe does: bytes that others take for those of whoever's secret it holds.

// server is one, and its device 0.
func server(s suite.Suite) (api.Relay, api.Account) {
	x := account.New(s, api.Key{1}, api.Key{2}, api.Key{3})
	var homes [api.MaxDevices]api.Home
	homes[0].Agree, homes[0].Signer = account.Public(s, x)
	first := s.Fresh(api.Key{4})
	var c api.Cache
	c.First[0] = s.Signer(first)
	return relay.New(s, 0, first, c, homes), x
}

// call are the steps that make a packet of the device 0 to its server, a sync, signed by what the first one makes.
func call(by api.Step) []api.Step {
	return []api.Step{by, write("\x10"), write("\x00"), write("\x01"), join(), write("\x04"), write("\x00\x01"), write("\x00\x00"), join(5, 6, 7), write("pack"), join(9, 1, 2, 3, 4, 8), sign(0, 10), join(1, 2, 3, 4, 8, 11)}
}

func TestForgedPacket(t *testing.T) {
	for name, k := range kitchens(t) {
		r, x := server(k.one)
		server(k.two)
		body, _ := wire.PutCall(api.Call{Kind: api.CallSync, Seq: 1})
		p := api.Packet{From: 16, To: 0, Kind: api.PackCall, Body: body}
		p.Sig = both(k, func(s suite.Suite) api.Sig { return s.Sign(x.Sign, wire.PacketText(p)) })
		want, _ := wire.PutPacket(p)
		k.own = []api.Key{x.Agree, x.Sign, x.Fallback.Secret, r.First}
		k.is(want, call(held(1))...)
		for n, e := range []api.Errno{api.ErrSign, api.OK, api.ErrSign, api.ErrSign} {
			b, ok := k.cook(call(held(n))...)
			if _, out, got := relay.Handle(k.one, r, b); !ok || got != e || len(out) != map[api.Errno]int{api.OK: 1}[e] {
				t.Errorf("%s: a packet by the secret %d: %d", name, n, got)
			}
			relay.Handle(k.two, r, b)
		}
		b, _ := k.cook(call(fresh(0))...)
		if _, _, e := relay.Handle(k.one, r, b); e != api.ErrSign {
			t.Errorf("%s: a packet by an own secret: %d", name, e)
		}
	}
}

// What was seen comes as it was, too, and a piece of it in another place is of no use.
func TestSeenPacket(t *testing.T) {
	for name, k := range kitchens(t) {
		r, x := server(k.one)
		server(k.two)
		k.own = []api.Key{x.Agree, x.Sign}
		b, _ := k.cook(call(held(1))...)
		k.seen, k.own = [][]byte{b}, nil
		k.is(b, seen(0))
		other, ok := k.cook(seen(0), piece(0, 0), piece(0, 1), piece(0, 2), piece(0, 3), write("\x04"), write("\x00\x02"), write("\x00\x00"), join(5, 6, 7), piece(0, 5), join(1, 2, 3, 4, 8, 9))
		if _, _, e := relay.Handle(k.one, r, b); e != api.OK {
			t.Errorf("%s: what was seen: %d", name, e)
		}
		if _, _, e := relay.Handle(k.one, r, other); !ok || e != api.ErrSign {
			t.Errorf("%s: another call by its signature: %d", name, e)
		}
	}
}

// A device of the foe's own making: its bundle is checked, and it answers who begins a session by it.
func TestOwnBundle(t *testing.T) {
	for name, k := range kitchens(t) {
		steps := []api.Step{fresh(0), fresh(1), fresh(2), public(0), signer(1), public(2), write("\x07"), write("\x00\x00"), write("once"), join(8, 6, 3, 4, 7, 5), sign(1, 9), join(6, 3, 4, 7, 5, 10)}
		b, ok := k.cook(steps...)
		x, e := wire.GetBundle(b)
		if !ok || e != api.OK || !account.Check(k.one, x) || x.Device != 7 {
			t.Fatalf("%s: a bundle of its own: %t %d", name, ok, e)
		}
		// The other one agrees with it, three times, and the foe comes to the same.
		mine := account.New(k.one, api.Key{1}, api.Key{2}, api.Key{3})
		account.New(k.two, api.Key{1}, api.Key{2}, api.Key{3})
		session, e := account.Begin(k.one, mine, x, api.Key{5}, api.Key{6})
		account.Begin(k.two, mine, x, api.Key{5}, api.Key{6})
		if e != api.OK {
			t.Fatalf("%s: Begin: %d", name, e)
		}
		k.seen = [][]byte{session.Agree[:], session.Base[:]}
		foes := account.New(k.one, api.Key{0, 251}, api.Key{0, 251, 0, 1}, api.Key{0, 251, 0, 2})
		account.New(k.two, api.Key{0, 251}, api.Key{0, 251, 0, 1}, api.Key{0, 251, 0, 2})
		_, end, e := account.Answer(k.one, foes, api.Header{Session: session.Id, First: true, Agree: session.Agree, Signer: session.Signer, Base: session.Base, Ratchet: k.one.Public(session.Mine)})
		account.Answer(k.two, foes, api.Header{Session: session.Id, First: true, Agree: session.Agree, Signer: session.Signer, Base: session.Base, Ratchet: k.two.Public(session.Mine)})
		id, ok := k.cook(fresh(2), public(0), seen(0), seen(1), mix('I', 2, 3, 1))
		if !ok || e != api.OK || !bytes.Equal(id, end.Id[:]) || end.Root != session.Root {
			t.Errorf("%s: the session %x, want %x: %d", name, id, end.Id, e)
		}
	}
}
