package relay_test

import (
	"bytes"
	"fmt"
	"testing"

	"missive/api"
	"missive/wire"
)

// P22.6, of a net in which packets are lost, doubled and late, servers take new keys and are read from their rows

// caller is a device: what it calls till it is answered, and what it had.
type caller struct {
	seq, since uint16
	doing      []byte
	call       api.Call
	accepted   map[byte]int // letters, by to whom
	heard      map[byte]int // letters, by of whom
	keys       map[string]bool
}

// net are three servers with two devices each, and what is on the way.
type net struct {
	a       asker
	d       drawer
	need    byte
	servers [3]api.Relay
	callers map[byte]*caller
	way     [][]byte
	turns   int
}

func (a asker) net(seed int, need byte) *net {
	a.Helper()
	n := &net{a: a, d: drawer(seed), callers: map[byte]*caller{}}
	for i := range byte(3) {
		r := a.relay(i, need)
		r.Cache.First[3], r.Homes[2], r.Homes[3] = api.Key{}, api.Home{}, api.Home{}
		n.servers[i] = r
		for place := range byte(2) {
			d := 4*i + place
			n.callers[d] = &caller{accepted: map[byte]int{}, heard: map[byte]int{}, keys: map[string]bool{}}
		}
	}
	return n
}

// anyone is the number of a device that is there.
func (n *net) anyone() byte { return byte(4*n.d.below(3) + n.d.below(2)) }

// calls lets a device do what it is doing, or something else.
func (n *net) calls(d byte, sync bool) {
	n.a.Helper()
	c := n.callers[d]
	if c.doing == nil && c.seq < 40000 {
		c.seq++
		c.call = n.wish(d, sync)
		c.call.Seq = c.seq
		c.doing = n.a.calls(d, c.call)
	}
	n.way = append(n.way, c.doing)
}

// wish is what a device would have.
func (n *net) wish(d byte, sync bool) api.Call {
	c, peer := n.callers[d], n.anyone()
	kind := n.d.below(8)
	switch {
	case sync || kind < 3:
		return api.Call{Kind: api.CallSync, Since: c.since}
	case kind < 6:
		return api.Call{Kind: api.CallPost, Letter: letter(d, peer, fmt.Sprint(c.accepted[peer]+1)).Letter}
	case kind < 7:
		return api.Call{Kind: api.CallClaim, Peer: peer}
	}
	shelf := n.servers[d/4].Homes[d%4].Shelf
	return api.Call{Kind: api.CallUpload, Bundles: n.a.bundles(d, shelf.Last+1, shelf.Last+2)}
}

// pass lets arrive what is on the way at a place.
func (n *net) pass(at int) {
	n.a.Helper()
	b := n.way[at]
	n.lose(at)
	p, e := wire.GetPacket(b)
	n.a.is("a packet", e, api.OK)
	if p.To >= 16 {
		n.answered(p.To-16, p)
		return
	}
	r := n.servers[p.To]
	q, out, e := n.a.handle(r, b)
	// Its clock may be behind that of a server that took a new key.
	if e != api.OK && e != api.ErrOrder && e != api.ErrFull && e != api.ErrWhen {
		n.a.Fatalf("a packet of the kind %d: %d", p.Kind, e)
	}
	if p.Kind == api.PackCall && r.Homes[p.From%4].Seq == q.Homes[p.From%4].Seq {
		n.a.left("a call that came again", q, r)
	}
	n.servers[p.To] = q
	n.way = append(n.way, out...)
}

func (n *net) lose(at int) {
	n.way[at] = n.way[len(n.way)-1]
	n.way = n.way[:len(n.way)-1]
}

// answered lets a device have a reply.
func (n *net) answered(d byte, p api.Packet) {
	n.a.Helper()
	c := n.callers[d]
	y, e := wire.GetReply(p.Body)
	n.a.is("a reply", e, api.OK)
	if c.doing == nil || y.Seq != c.seq {
		return
	}
	c.doing = nil
	switch {
	case y.Why != 0 && (c.call.Kind == api.CallSync || api.Errno(y.Why) != api.ErrFull):
		n.a.Fatalf("the call %v is answered %d", c.call, y.Why)
	case y.Why != 0:
	case c.call.Kind == api.CallPost:
		c.accepted[c.call.Letter.To]++
	case c.call.Kind == api.CallSync:
		if y.From != c.since+1 {
			n.a.Fatalf("a sync since %d is answered from %d", c.since, y.From)
		}
		c.since += uint16(len(y.Items))
		for _, x := range y.Items {
			n.has(d, x)
		}
	}
}

// has lets a device have an item: letters of each one come once, in order, and so does each one-time key.
func (n *net) has(d byte, x api.Item) {
	n.a.Helper()
	c := n.callers[d]
	switch x.Kind {
	case api.ItemLetter:
		from := x.Letter.From
		c.heard[from]++
		if want := fmt.Sprint(c.heard[from]); x.Letter.To != d || string(x.Letter.Body) != want {
			n.a.Fatalf("%d has of %d the letter %q, want %q", d, from, x.Letter.Body, want)
		}
	case api.ItemGive:
		if x.Asker != d {
			n.a.Fatalf("%d has what %d asked for", d, x.Asker)
		}
		key := fmt.Sprint(x.Bundle.Device, x.Bundle.Id)
		for other, c := range n.callers {
			if c.keys[key] && x.Bundle.Id > 0 {
				n.a.Fatalf("the key %s is had by %d and by %d", key, other, d)
			}
		}
		c.keys[key] = true
	case api.ItemNone:
		if x.Asker != d {
			n.a.Fatalf("%d has what %d asked for", d, x.Asker)
		}
	}
}

// restart reads a server from its rows.
func (n *net) restart(i int) {
	n.a.Helper()
	l, ok := rows(n.a.T, n.servers[i])
	q, good := load(n.a.T, l)
	if !ok || !good || differs(q, n.servers[i]) != "" {
		n.a.Fatalf("a server isn't read again: %s", differs(q, n.servers[i]))
	}
	n.servers[i] = q
}

// step is something that happens.
func (n *net) step() {
	n.a.Helper()
	switch kind := n.d.below(40); {
	case kind < 8:
		n.calls(n.anyone(), false)
	case kind < 12:
		i := n.d.below(3)
		r, out := n.a.tick(n.servers[i])
		n.servers[i], n.way = r, append(n.way, out...)
	case kind == 12 && n.turns < 9:
		i := n.d.below(3)
		r, out, e := n.a.rotate(n.servers[i], run(n.d.byte()))
		if e == api.OK {
			n.turns++
		}
		n.servers[i], n.way = r, append(n.way, out...)
	case kind == 13:
		n.restart(n.d.below(3))
	case len(n.way) == 0:
	case kind == 14:
		n.lose(n.d.below(len(n.way)))
	case kind == 15:
		n.way = append(n.way, n.way[n.d.below(len(n.way))])
	default:
		n.pass(n.d.below(len(n.way)))
	}
}

// calm lets all arrive from now on, till all that was accepted is had.
func (n *net) calm(rounds int) {
	n.a.Helper()
	for range rounds {
		for i := range n.servers {
			r, out := n.a.tick(n.servers[i])
			n.servers[i], n.way = r, append(n.way, out...)
		}
		for i := range byte(3) {
			n.calls(4*i, true)
			n.calls(4*i+1, true)
		}
		for len(n.way) > 0 {
			n.pass(0)
		}
	}
	letters := 0
	for d, c := range n.callers {
		for e, o := range n.callers {
			letters += c.accepted[e]
			if c.accepted[e] != o.heard[d] {
				n.a.Fatalf("of %d letters of %d to %d there are had %d", c.accepted[e], d, e, o.heard[d])
			}
		}
	}
	for i, r := range n.servers {
		if r.Turning || waiting(r) > 0 {
			n.a.Fatalf("at the server %d there wait %d, turning %t", i, waiting(r), r.Turning)
		}
	}
	n.a.Logf("%d letters, %d new keys", letters, n.turns)
}

func TestWhatIsAcceptedIsHandedOnOnce(t *testing.T) {
	for seed := range 4 {
		n := termer(t).net(seed, byte(seed)%3)
		for range 1200 {
			n.step()
		}
		n.calm(60)
	}
	if testing.Short() {
		return
	}
	n := reckoner(t).net(9, 1)
	for range 120 {
		n.step()
	}
	n.calm(12)
}

// A letter whose transaction comes again and again is in the inbox once; so is an answer whose acknowledgement does.
func TestAgainAndAgain(t *testing.T) {
	for _, a := range askers(t) {
		x, y := a.relay(0, 0), a.relay(1, 0)
		y.Homes[1].Shelf = a.shelf(5, 7)
		x, out, e := a.handle(x, a.calls(0, api.Call{Kind: api.CallClaim, Seq: 1, Peer: 5}))
		a.is("a claim", e, api.OK)
		var acks [][]byte
		for range 3 {
			var l [][]byte
			y, l, e = a.handle(y, out[1])
			a.is("the transaction", e, api.OK)
			acks = append(acks, l...)
		}
		if len(y.Homes[1].Shelf.Left) != 0 || len(acks) != 3 || !bytes.Equal(acks[0], acks[2]) {
			t.Fatalf("there are left %v", y.Homes[1].Shelf)
		}
		for i, b := range acks {
			x, _, e = a.handle(x, b)
			if (e == api.OK) != (i == 0) || len(x.Homes[0].Inbox.Items) != 1 {
				t.Fatalf("the acknowledgement %d: %d", i, e)
			}
		}
	}
}
