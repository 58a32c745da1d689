package world_test

import (
	"bytes"
	"slices"
	"testing"

	"missive/account"
	"missive/api"
	"missive/world"
)

// P26.2

// forWhom tells whether an entry of a kind may be for that Who, in a world of the setting.
func forWhom(c api.Setting, kind, who byte) bool {
	switch kind {
	case api.ActTick, api.ActFuse, api.ActStart, api.ActForge:
		return slices.Contains(nodes(c), who)
	case api.ActSay, api.ActTrust, api.ActSteal:
		return slices.Contains(devices(c), who)
	case api.ActRotate, api.ActTake:
		return slices.Contains(servers(c), who)
	}
	return true
}

// Every kind, and every Who: ErrNone comes first, but of the five kinds that are for nobody.
func TestWho(t *testing.T) {
	for _, c := range []api.Setting{free(1, 1, 0), free(2, 1, 0), free(3, 2, 1), free(4, 4, 0)} {
		for kind := byte(1); kind <= 14; kind++ {
			w := friends(t, c)
			do(t, w, tick(16))
			for who := range 256 {
				e := api.Entry{Kind: kind, Who: byte(who), Peer: 200, N: -1, Text: []byte("term")}
				x := w.Do(e)
				want := api.OK
				switch {
				case !forWhom(c, kind, e.Who):
					want = api.ErrNone
				case kind == api.ActSay:
					want = api.ErrArg
				case kind == api.ActPass, kind == api.ActDrop, kind == api.ActDouble, kind == api.ActTrust, kind == api.ActRipe:
					want = api.ErrNone
				case kind == api.ActForge:
					want = api.ErrForm
				}
				if x != want {
					t.Errorf("%v, kind %d for %d: %d instead of %d", c, kind, who, x, want)
				}
			}
		}
	}
}

// Another kind is ErrArg, whoever it is for, and does nothing.
func TestOtherKinds(t *testing.T) {
	c := free(2, 2, 0)
	w, m := friends(t, c), modelOf(c)
	for _, e := range all(c) {
		m.do(e)
	}
	for kind := range 256 {
		if kind >= 1 && kind <= 14 {
			continue
		}
		for _, who := range []byte{0, 1, 4, 16, 20, 30, 200} {
			e := api.Entry{Kind: byte(kind), Who: who, Peer: 4, N: 1, Text: []byte("x")}
			not(t, w, api.ErrArg, e)
			m.do(e)
		}
	}
	m.holds(t, w)
}

func TestTick(t *testing.T) {
	for _, c := range both(2, 1, 0) {
		w := begun(t, c)
		do(t, w, tick(0), tick(0), tick(1), tick(20))
		if w.Relay(0).Clock != 2 || w.Relay(1).Clock != 1 || w.Client(0).Seq != 0 || w.Client(4).Seq != 1 {
			t.Error("who ticked:", w.Relay(0).Clock, w.Relay(1).Clock, w.Client(0).Seq, w.Client(4).Seq)
		}
		l, seen := w.Bag(), w.Seen()
		if len(l) != 1 || l[0].From != 20 || l[0].To != 1 || len(seen) != 1 || !bytes.Equal(l[0].Bytes, seen[0]) {
			t.Error("what is sent:", l, seen)
		}
	}
}

// The clock is the net's alone.
func TestClock(t *testing.T) {
	w := begun(t, free(3, 1, 0))
	for n := range 300 {
		do(t, w, tick(16), drop(0))
		do(t, w, tick(16))
		if l := w.Bag(); l[0].Due != uint32(n+1) {
			t.Fatal(n, l[0].Due)
		}
		do(t, w, drop(0), clock())
	}
	if w.Relay(0).Clock != 0 {
		t.Error("a server's clock went on")
	}
}

func TestSay(t *testing.T) {
	for _, c := range both(2, 2, 0) {
		w := begun(t, c)
		do(t, w, trust(0, 4), trust(0, 1), say(0, 4, "one"), say(0, 1, "two"), say(0, 4, ""), say(0, 4, "ter"), say(0, 4, "Term"))
		said(t, w, 0, 4, "one", "", "ter", "Term")
		said(t, w, 0, 1, "two")
		said(t, w, 4, 0)
		if p := w.Client(0).Peers; len(p) != 2 || p[0].Told != 1 || p[1].Told != 4 || string(p[1].Out[0].Body) != "one" {
			t.Error(p)
		}
		if len(w.Seen()) > 0 || len(w.Bag()) > 0 {
			t.Error("something was sent")
		}
	}
}

// Wherever "term" stands in what is to be said, it isn't; and that comes ahead of all else but ErrNone.
func TestSayTerm(t *testing.T) {
	for _, c := range both(2, 1, 0) {
		w := begun(t, c)
		text := bytes.Repeat([]byte("."), 64)
		for at := 0; at+4 <= 64; at++ {
			b := bytes.Clone(text)
			copy(b[at:], "term")
			not(t, w, api.ErrArg, say(0, 4, string(b)))
		}
		not(t, w, api.ErrArg, say(0, 200, "term"))
		not(t, w, api.ErrArg, say(0, 4, "term"+string(text)))
		not(t, w, api.ErrNone, say(1, 4, "term"))
		do(t, w, fuse(16, 0))
		not(t, w, api.ErrDead, tick(16))
		not(t, w, api.ErrArg, say(0, 4, "term"))
		not(t, w, api.ErrDead, say(0, 4, "x"))
		said(t, w, 0, 4)
	}
}

// The errors of client.Say: what isn't accepted isn't said.
func TestSayErrors(t *testing.T) {
	w := begun(t, free(2, 1, 0))
	long := string(bytes.Repeat([]byte("x"), 65))
	not(t, w, api.ErrPeer, say(0, 4, long))
	not(t, w, api.ErrPeer, say(0, 0, "x"))
	not(t, w, api.ErrPeer, say(0, 255, "x"))
	do(t, w, trust(0, 4))
	not(t, w, api.ErrLong, say(0, 4, long))
	do(t, w, say(0, 4, long[1:]))
	for range 7 {
		do(t, w, say(0, 4, "x"))
	}
	not(t, w, api.ErrFull, say(0, 4, "y"))
	said(t, w, 0, 4, long[1:], "x", "x", "x", "x", "x", "x", "x")
}

// A parcel arrives at whom it is to, and is on the way no more, whatever comes of it.
func TestPass(t *testing.T) {
	for _, c := range both(2, 1, 0) {
		w := begun(t, c)
		not(t, w, api.ErrNone, pass(0))
		do(t, w, tick(16), tick(20))
		l := w.Bag()
		for _, n := range []int{-1, 2, 64, -1 << 63, 1<<63 - 1, 1 << 32} {
			not(t, w, api.ErrNone, pass(n))
		}
		if !alike(w.Bag(), l) {
			t.Error("something was taken")
		}
		do(t, w, pass(1)) // the device 4's call, at its server
		if w.Relay(1).Homes[0].Seq != 1 || w.Relay(0).Homes[0].Seq != 0 {
			t.Error("it came to another one")
		}
		l = w.Bag()
		if len(l) != 2 || l[0].To != 0 || l[1].From != 1 || l[1].To != 20 {
			t.Error("on the way:", l)
		}
		do(t, w, double(1), pass(1))
		if !w.Client(4).Synced {
			t.Error("the reply didn't come")
		}
		not(t, w, api.ErrOrder, pass(1)) // it was answered already
		if l := w.Bag(); len(l) != 1 {
			t.Error("what was refused is on the way still")
		}
	}
}

// What comes to a node that is down is lost, be it the step itself that finds the disk dead.
func TestPassDown(t *testing.T) {
	w := begun(t, free(1, 1, 0))
	do(t, w, tick(16), double(0), fuse(0, 0))
	for range 2 {
		not(t, w, api.ErrDead, pass(0))
		if !w.Down(0) {
			t.Error("it isn't down")
		}
	}
	not(t, w, api.ErrNone, pass(0))
	do(t, w, start(0, 0))
	if len(w.Bag()) > 0 || len(w.Seen()) != 1 || w.Relay(0).Homes[0].Seq != 0 {
		t.Error("something was done")
	}
}

// What is ripe first arrives, at the net's clock.
func TestRipe(t *testing.T) {
	w := begun(t, free(2, 1, 0))
	do(t, w, tick(16), clock(), tick(20))
	not(t, w, api.ErrNone, pass(2))
	do(t, w, ripe())
	if w.Relay(0).Homes[0].Seq != 1 || w.Relay(1).Homes[0].Seq != 0 {
		t.Error("another one arrived")
	}
	not(t, w, api.ErrNone, ripe())
	do(t, w, clock())
	if l := w.Bag(); len(l) != 2 || l[0].From != 20 || l[1].From != 0 || l[0].Due != 2 || l[1].Due != 2 {
		t.Error(l)
	}
	do(t, w, ripe(), ripe())
	if w.Relay(1).Homes[0].Seq != 1 || !w.Client(0).Synced || len(w.Bag()) != 1 {
		t.Error("they didn't arrive")
	}
	not(t, w, api.ErrNone, ripe())
}

func TestDrop(t *testing.T) {
	w := begun(t, free(2, 1, 0))
	not(t, w, api.ErrNone, drop(0))
	do(t, w, tick(16), tick(20), tick(16))
	l := w.Bag()
	not(t, w, api.ErrNone, drop(3))
	not(t, w, api.ErrNone, drop(-1))
	do(t, w, drop(1))
	if got := w.Bag(); !alike(got, []api.Parcel{l[0], l[2]}) {
		t.Error(got)
	}
	if len(w.Seen()) != 3 || w.Relay(1).Homes[0].Seq != 0 {
		t.Error("it isn't lost")
	}
}

func TestDouble(t *testing.T) {
	w := begun(t, free(2, 1, 0))
	not(t, w, api.ErrNone, double(0))
	do(t, w, tick(16), tick(20))
	l := w.Bag()
	not(t, w, api.ErrNone, double(2))
	not(t, w, api.ErrNone, double(-1))
	do(t, w, clock(), double(0))
	if got := w.Bag(); !alike(got, []api.Parcel{l[0], l[1], l[0]}) {
		t.Error(got)
	}
	for range 61 {
		do(t, w, double(1))
	}
	for _, n := range []int{0, 1, 2, 62, 63} {
		not(t, w, api.ErrFull, double(n))
	}
	for _, n := range []int{-1 << 63, -2, -1, 64, 65, 1000, 1 << 32, 1<<63 - 1} {
		not(t, w, api.ErrNone, double(n))
	}
	if len(w.Bag()) != 64 || len(w.Seen()) != 2 {
		t.Error(len(w.Bag()), len(w.Seen()))
	}
}

// What has no room in the bag is seen, and lost.
func TestFullBag(t *testing.T) {
	w := begun(t, free(2, 1, 0))
	do(t, w, tick(16))
	for range 63 {
		do(t, w, double(0))
	}
	l := w.Bag()
	do(t, w, tick(20))
	seen := w.Seen()
	if !alike(w.Bag(), l) || len(seen) != 2 || w.Client(4).Seq != 1 {
		t.Fatal("what had no room", len(seen))
	}
	do(t, w, drop(0), tick(20))
	if l := w.Bag(); len(l) != 64 || l[63].From != 20 || !bytes.Equal(l[63].Bytes, seen[1]) {
		t.Error("what has room again")
	}
}

func TestTrust(t *testing.T) {
	for _, c := range both(2, 2, 0) {
		w := begun(t, c)
		do(t, w, trust(0, 4), trust(0, 1))
		s := w.Suite()
		var want []api.Peer
		for _, d := range []byte{1, 4} {
			agree, signer := account.Public(s, w.Client(d).Account)
			want = append(want, api.Peer{Device: d, Print: account.Print(s, agree, signer)})
		}
		if got := w.Client(0).Peers; !alike(got, want) || len(w.Client(4).Peers) > 0 {
			t.Error(got)
		}
	}
}

// ErrNone, of the device and then of the peer; ErrDead; then the errors of client.Trust.
func TestTrustErrors(t *testing.T) {
	for _, c := range []api.Setting{free(2, 1, 0), free(3, 3, 0), free(4, 4, 0)} {
		w := begun(t, c)
		for peer := range 256 {
			want := api.ErrNone
			if slices.Contains(devices(c), byte(peer)) {
				want = api.ErrDead
			}
			do(t, w, fuse(16, 0))
			not(t, w, api.ErrDead, tick(16))
			not(t, w, want, trust(0, byte(peer)))
			do(t, w, start(16, 0))
		}
		terms := w.Suite().Terms().Len()
		not(t, w, api.ErrArg, trust(0, 0))
		if w.Suite().Terms().Len() != terms+1 {
			t.Error("the fingerprint isn't made ahead of the refusal")
		}
	}
	w := begun(t, free(4, 4, 0))
	for d := byte(1); d <= 8; d++ {
		do(t, w, trust(0, d))
	}
	not(t, w, api.ErrThere, trust(0, 8))
	not(t, w, api.ErrFull, trust(0, 9))
}

// Nobody's fingerprint is made for one that is down.
func TestTrustDown(t *testing.T) {
	w := begun(t, free(2, 1, 0))
	do(t, w, fuse(16, 0))
	not(t, w, api.ErrDead, tick(16))
	n := w.Suite().Terms().Len()
	not(t, w, api.ErrDead, trust(0, 4))
	if w.Suite().Terms().Len() != n {
		t.Error("terms were made")
	}
	do(t, w, trust(4, 0)) // whether the peer is down is all the same
}

func TestRotate(t *testing.T) {
	for _, c := range both(3, 1, 0) {
		w := begun(t, c)
		do(t, w, rotate(1), tick(0))
		r := w.Relay(1)
		if len(r.Chain) != 1 || r.Turning || r.Secret == r.First || r.Secret != w.Suite().Fresh(api.Key{0, 5, 0, 0, 0, 1}) {
			t.Error(r)
		}
		do(t, w, rotate(1), rotate(1), rotate(1))
		not(t, w, api.ErrCount, rotate(1))
		do(t, w, fuse(1, 0))
		not(t, w, api.ErrDead, tick(1))
		not(t, w, api.ErrDead, rotate(1))
	}
}

// With others' vouches: what is asked of them goes out at once.
func TestRotateNeed(t *testing.T) {
	for _, c := range both(3, 1, 2) {
		w := begun(t, c)
		do(t, w, rotate(0))
		if l := w.Bag(); len(l) != 2 || l[0].To != 1 || l[1].To != 2 || l[0].From != 0 || len(w.Seen()) != 2 {
			t.Error(l)
		}
		not(t, w, api.ErrBusy, rotate(0))
		w.Calm(3)
		if r := w.Relay(0); r.Turning || len(r.Chain) != 1 || r.Secret == r.First {
			t.Error(r)
		}
	}
}

// The draws of an entry hang on its number; all entries are counted, those that are refused, too, and those of Calm.
func TestDraws(t *testing.T) {
	number := func(w *world.World) []byte {
		if e := w.Do(rotate(0)); e != api.OK {
			t.Fatal(e)
		}
		_, parts, _ := w.Suite().Terms().Of(w.Relay(0).Secret)
		return parts[0]
	}
	for n, ahead := range [][]api.Entry{
		nil,
		{tick(0)},
		{{}, tick(99), pass(0), ripe(), clock(), say(0, 0, "term"), forge(0), drop(0), double(0), start(16, 0), fuse(16, 3), take(0), steal(0)},
		slices.Repeat([]api.Entry{{}}, 254),
		slices.Repeat([]api.Entry{{}}, 255),
		slices.Repeat([]api.Entry{{}}, 65534),
		slices.Repeat([]api.Entry{{}}, 65535+256),
	} {
		w := begun(t, free(1, 1, 0))
		for _, e := range ahead {
			w.Do(e)
		}
		k := len(ahead) + 1
		want := api.Key{0, 5, byte(k >> 24), byte(k >> 16), byte(k >> 8), byte(k)}
		if got := number(w); !bytes.Equal(got, want[:]) {
			t.Error(n, got, want)
		}
	}
	// Of a round two ticks, and what arrives: a call and a reply, and a tick of the clock ahead of each.
	w := begun(t, free(1, 1, 0))
	w.Calm(1)
	if got, want := number(w), (api.Key{0, 5, 0, 0, 0, 7}); !bytes.Equal(got, want[:]) {
		t.Error(got)
	}
}

// The draws of a device: of the keys that it makes when it has few.
func TestDrawsOfDevices(t *testing.T) {
	w := begun(t, free(1, 1, 0))
	do(t, w, tick(16), pass(0), pass(0)) // the reply is the third entry
	for i, o := range w.Client(0).Account.Left {
		want := api.Key{0, 5, 0, 0, 0, 3}
		want[31] = byte(200 + i)
		if _, parts, _ := w.Suite().Terms().Of(o.Secret); !bytes.Equal(parts[0], want[:]) {
			t.Error(i, parts)
		}
	}
	if len(w.Client(0).Account.Left) != 4 {
		t.Error("no keys were made")
	}
}

// What is forged comes of what was seen and what is held, is seen itself, and arrives.
func TestForge(t *testing.T) {
	for _, c := range both(2, 1, 0) {
		w := begun(t, c)
		not(t, w, api.ErrForm, forge(0))
		not(t, w, api.ErrForm, forge(0, api.Step{Kind: api.FoeSeen}))
		not(t, w, api.ErrForm, forge(0, api.Step{Kind: api.FoeOwn}))
		not(t, w, api.ErrNone, forge(3))
		not(t, w, api.ErrNone, forge(255))
		if len(w.Seen()) > 0 {
			t.Error("seen:", w.Seen())
		}
		do(t, w, tick(20), drop(0), forge(1, api.Step{Kind: api.FoeSeen}))
		if w.Relay(1).Homes[0].Seq != 1 || len(w.Seen()) != 3 || !bytes.Equal(w.Seen()[0], w.Seen()[1]) {
			t.Error("the device's call didn't come")
		}
		if l := w.Bag(); len(l) != 1 || l[0].From != 1 || l[0].To != 20 {
			t.Error("the reply isn't on the way", l)
		}
		not(t, w, api.ErrForm, forge(1, api.Step{Kind: api.FoeWrite, Bytes: []byte("x")}))
		if l := w.Seen(); len(l) != 4 || string(l[3]) != "x" {
			t.Error("what was brought, and refused, isn't seen")
		}
	}
}

// What is brought to a node that is down is seen. What can't be made comes ahead of that; an empty text is made.
func TestForgeDown(t *testing.T) {
	w := begun(t, free(1, 1, 0))
	do(t, w, fuse(0, 0))
	not(t, w, api.ErrDead, tick(0))
	not(t, w, api.ErrForm, forge(0))
	not(t, w, api.ErrDead, forge(0, api.Step{Kind: api.FoeWrite, Bytes: []byte("ab")}))
	not(t, w, api.ErrDead, forge(0, api.Step{Kind: api.FoeWrite}))
	if l := w.Seen(); len(l) != 2 || string(l[0]) != "ab" || len(l[1]) > 0 {
		t.Error(l)
	}
}
