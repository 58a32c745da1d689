package client_test

import (
	"fmt"
	"testing"

	"missive/api"
	"missive/client"
)

// P23.1

func TestNew(t *testing.T) {
	for _, a := range askers(t) {
		d := drawer(1)
		all(func(n byte) {
			x := d.client()
			a.begin(n, x.Account, x.Cache)
		})
		a.begin(0, api.Account{}, api.Cache{})
		long := d.account(70)
		long.Fallback.Id = 7
		a.begin(3, long, api.Cache{})
		if a.count() != 0 {
			t.Errorf("New made %d terms", a.count())
		}
	}
}

// Whom each device may trust.
func TestWhomToTrust(t *testing.T) {
	a := termer(t)
	for _, device := range []byte{0, 1, 7, 14, 15, 16, 17, 240, 255} {
		c := a.begin(device, api.Account{}, api.Cache{})
		all(func(peer byte) {
			got, e := a.trust(c, peer, run(peer))
			want := api.OK
			if peer > 15 || peer == device {
				want = api.ErrArg
			}
			a.is(fmt.Sprint(device, " trusts ", peer), e, want)
			if want == api.OK {
				p := got.Peers[0]
				if len(got.Peers) != 1 || p.Device != peer || p.Print != run(peer) || p.Asked || p.Told+p.Last != 0 || len(p.Sessions)+len(p.Out)+len(p.Held) != 0 {
					t.Fatalf("%d trusts %v", device, got.Peers)
				}
			}
		})
	}
}

// What may be wrong, each beside each.
func TestTrustTheFirstErrorIsTold(t *testing.T) {
	errors := []api.Errno{api.ErrArg, api.ErrThere, api.ErrFull}
	a := termer(t)
	for holds := range 1 << len(errors) {
		for _, wrong := range []byte{9, 16, 255} {
			c := a.begin(9, api.Account{}, api.Cache{})
			who := byte(4)
			if holds&1 != 0 {
				who = wrong
			}
			if holds&2 != 0 {
				c.Peers = []api.Peer{{Device: who, Print: run(1)}}
			}
			for d := byte(20); holds&4 != 0 && len(c.Peers) < 8; d++ {
				c.Peers = append(c.Peers, api.Peer{Device: d})
			}
			_, e := a.trust(c, who, run(1))
			a.is(fmt.Sprintf("Trust %b", holds), e, first(holds, errors))
		}
	}
}

// However often, and in whatever order: peers rise by their numbers, and at most eight are trusted.
func TestTrustInAnyOrder(t *testing.T) {
	a := termer(t)
	d := drawer(2)
	for range 200 {
		c := a.begin(byte(d.below(16)), d.account(3), api.Cache{})
		trusted := map[byte]api.Key{}
		for range 40 {
			peer, print := byte(d.below(17)), d.key()
			got, e := a.trust(c, peer, print)
			_, there := trusted[peer]
			switch {
			case peer == 16 || peer == c.Device:
				a.is("no peer", e, api.ErrArg)
			case there:
				a.is("a peer again", e, api.ErrThere)
			case len(trusted) == 8:
				a.is("a ninth peer", e, api.ErrFull)
			default:
				a.is("a peer", e, api.OK)
				trusted[peer] = print
			}
			c = got
			if len(c.Peers) != len(trusted) {
				t.Fatalf("there are %d peers, want %d", len(c.Peers), len(trusted))
			}
			for i, p := range c.Peers {
				if i > 0 && c.Peers[i-1].Device >= p.Device || trusted[p.Device] != p.Print {
					t.Fatalf("the peers are %v", c.Peers)
				}
			}
		}
		if len(trusted) != 8 {
			t.Fatalf("%d are trusted", len(trusted))
		}
	}
}

// Of what is known of the other peers nothing changes.
func TestTrustBesideOthers(t *testing.T) {
	a := termer(t)
	d := drawer(3)
	for range 300 {
		c := d.client()
		c.Peers = nil
		for device := range byte(16) {
			if d.below(3) == 0 {
				c.Peers = append(c.Peers, d.peer(device))
			}
		}
		a.trust(c, byte(d.below(18)), d.key())
		// Peers in no order, as nothing that is trusted comes to: behind the last one that is lesser.
		for i := range c.Peers {
			c.Peers[i].Device = byte(d.below(20))
		}
		a.trust(c, byte(d.below(18)), d.key())
	}
}

func TestSay(t *testing.T) {
	for _, a := range askers(t) {
		c := a.device(5, 4, 6)
		for i := range 8 {
			for _, to := range []byte{6, 4} {
				body := fmt.Sprint(to, " hears ", i)
				got, n, e := a.say(c, to, []byte(body))
				a.is("Say", e, api.OK)
				if p := peer(&got, to); int(n) != i+1 || p.Told != n || len(p.Out) != i+1 || !sameSaid(p.Out[i], api.Said{N: n, Body: []byte(body)}) {
					t.Fatalf("Say %d: %d, %v", i, n, p)
				}
				c = got
			}
		}
		_, _, e := a.say(c, 4, nil)
		a.is("a ninth thing", e, api.ErrFull)
		peer(&c, 4).Out = peer(&c, 4).Out[1:]
		c, n, e := a.say(c, 4, nil)
		a.is("a ninth thing, when one is posted", e, api.OK)
		if n != 9 || len(peer(&c, 4).Out) != 8 || peer(&c, 4).Out[7].N != 9 || peer(&c, 6).Told != 8 {
			t.Fatalf("the ninth thing has the number %d", n)
		}
	}
}

func TestSayToWhom(t *testing.T) {
	a := termer(t)
	c := a.device(5, 0, 4, 15)
	all(func(to byte) {
		_, n, e := a.say(c, to, []byte("text"))
		if to == 0 || to == 4 || to == 15 {
			if e != api.OK || n != 1 {
				t.Errorf("to %d: %d", to, e)
			}
		} else if e != api.ErrPeer || n != 0 {
			t.Errorf("to %d: %d", to, e)
		}
	})
	_, _, e := a.say(client.New(0, api.Account{}, api.Cache{}), 1, nil)
	a.is("to somebody", e, api.ErrPeer)
}

func TestSayHowMuch(t *testing.T) {
	a := termer(t)
	c := a.device(5, 4)
	for _, size := range []int{0, 1, 2, 63, 64, 65, 66, 256, 4096, 4097, 65536, 65537} {
		got, _, e := a.say(c, 4, make([]byte, size))
		if size <= 64 {
			a.is(fmt.Sprint(size, " bytes"), e, api.OK)
			if len(got.Peers[0].Out[0].Body) != size {
				t.Errorf("of %d bytes there wait %d", size, len(got.Peers[0].Out[0].Body))
			}
		} else {
			a.is(fmt.Sprint(size, " bytes"), e, api.ErrLong)
		}
	}
}

func TestSayNumbers(t *testing.T) {
	a := termer(t)
	for _, told := range edges() {
		c := a.device(5, 4)
		c.Peers[0].Told = told
		got, n, e := a.say(c, 4, []byte("x"))
		if told == 65535 {
			a.is("one too many", e, api.ErrCount)
			continue
		}
		a.is("Say", e, api.OK)
		if p := got.Peers[0]; n != told+1 || p.Told != n || p.Out[0].N != n {
			t.Errorf("behind %d comes %d", told, n)
		}
	}
}

func TestSayTheFirstErrorIsTold(t *testing.T) {
	errors := []api.Errno{api.ErrPeer, api.ErrLong, api.ErrCount, api.ErrFull}
	a := termer(t)
	for holds := range 1 << len(errors) {
		for _, more := range []int{0, 1, 100} {
			c := a.device(5, 4)
			p := &c.Peers[0]
			to, body := byte(4), []byte("x")
			if holds&1 != 0 {
				to = 6
			}
			if holds&2 != 0 {
				body = make([]byte, 65+more)
			}
			if holds&4 != 0 {
				p.Told = 65535
			}
			if holds&8 != 0 {
				p.Out = make([]api.Said, 8+more)
			}
			_, n, e := a.say(c, to, body)
			a.is(fmt.Sprintf("Say %b", holds), e, first(holds, errors))
			if e != api.OK && n != 0 {
				t.Errorf("beside the error %d stands %d", e, n)
			}
		}
	}
}

// Of two peers of one number it is the first.
func TestTheFirstOfTwoPeers(t *testing.T) {
	a := termer(t)
	c := a.device(5, 4)
	c.Peers = append(c.Peers, c.Peers[0])
	got, _, e := a.say(c, 4, []byte("x"))
	a.is("Say", e, api.OK)
	if len(got.Peers[0].Out) != 1 || len(got.Peers[1].Out) != 0 {
		t.Error("it waits for the second one")
	}
}
