package relay_test

import (
	"bytes"
	"testing"

	"missive/api"
	"missive/relay"
	"missive/wire"
)

// P22.5

// busy is a server in the midst of all that it may be in; what comes to it in right is done.
func (a asker) busy() (r api.Relay, right [][]byte) {
	a.Helper()
	r = a.asking(a.relay(1, 2), 2, 6, 7)
	r.Chain = a.chain(1, 2, 0, 2)
	r = a.turning(r)
	r.Homes[0].Shelf, r.Homes[0].Seq = a.shelf(4, 1, 2), 3
	r.Homes[1].Inbox = filled(5, 9)
	r.Queues[0] = filled(2, 4)
	of := a.bundles(8, 1)[1]
	p := a.transOf(3, 1, api.PackTrans, api.Trans{Id: 1, Items: []api.Item{letter(12, 5, "hi"), ask(13, 4), vouch(a.object(3, 2))}})
	p.Chain = a.chain(3, 1, 0, 2)
	return r, [][]byte{
		a.calls(4, api.Call{Kind: api.CallUpload, Seq: 4, Bundles: a.bundles(4, 3, 4)}),
		a.calls(4, api.Call{Kind: api.CallClaim, Seq: 4, Peer: 5}),
		a.calls(4, api.Call{Kind: api.CallClaim, Seq: 4, Peer: 9}),
		a.calls(4, api.Call{Kind: api.CallPost, Seq: 4, Letter: letter(4, 6, "hello").Letter}),
		a.calls(5, api.Call{Kind: api.CallSync, Seq: 1, Since: 6}),
		a.acks(2, 1, 7, give(4, of), none(5, 9), vouchedFor(a.vouched(r.Turn, 2))),
		a.signed(secret(3, 1), p),
	}
}

// What isn't brought as it was sent is refused, and the server is as it was.
func TestSpoiltPackets(t *testing.T) {
	a := termer(t)
	r, right := a.busy()
	d := drawer(4)
	for i, b := range right {
		if _, out, e := a.handle(r, b); e != api.OK || len(out) == 0 {
			t.Fatalf("the packet %d: %d", i, e)
		}
		for at := range b {
			step := 1 + len(b)/150
			if at%step != i%step {
				continue
			}
			for _, x := range []byte{b[at] ^ 1, b[at] + 128, d.byte()} {
				c := bytes.Clone(b)
				if c[at] = x; x == b[at] {
					continue
				}
				if _, out, e := a.handle(r, c); e == api.OK || len(out) != 0 {
					t.Fatalf("the packet %d with another byte %d is done", i, at)
				}
			}
			if _, _, e := a.handle(r, b[:at]); e != api.ErrForm {
				t.Fatalf("the packet %d, cut off: %d", i, e)
			}
		}
		for _, more := range [][]byte{{0}, {1}, b} {
			if _, _, e := a.handle(r, append(bytes.Clone(b), more...)); e != api.ErrForm {
				t.Fatalf("the packet %d, and more: %d", i, e)
			}
		}
	}
}

func TestSpoiltPacketsReally(t *testing.T) {
	a := reckoner(t)
	r, right := a.busy()
	for i, b := range right {
		for at := i; at < len(b); at += 1 + len(b)/6 {
			c := bytes.Clone(b)
			c[at] ^= 4
			if _, out, e := a.handle(r, c); e == api.OK || len(out) != 0 {
				t.Fatalf("the packet %d with another byte %d is done", i, at)
			}
		}
	}
}

// Bodies of any bytes, signed as they should be.
func TestAnyBodies(t *testing.T) {
	a := termer(t)
	r, right := a.busy()
	d := drawer(5)
	for i, b := range right {
		p, e := wire.GetPacket(b)
		a.is("the packet", e, api.OK)
		by := run(120 + p.From - 16)
		if p.From < 16 {
			by = secret(p.From, byte(len(p.Chain)))
		}
		whole, done := p.Body, 0
		for range 250 {
			p.Body = bytes.Clone(whole)
			for range 1 + d.below(2) {
				at := d.below(len(whole))
				switch d.below(5) {
				case 0:
					p.Body[min(at, len(p.Body)-1)]++
				case 1:
					p.Body[min(at, len(p.Body)-1)] = byte(d.below(20))
				case 2:
					p.Body = append(p.Body, byte(d.below(3)))
				case 3:
					p.Body = p.Body[:max(1, len(p.Body)-1)]
				default:
					p.Body[min(at, len(p.Body)-1)] = d.byte()
				}
			}
			q, out, e := a.handle(r, a.signed(by, p))
			if e == api.OK {
				done++
			} else if differs(q, r) != "" || len(out) != 0 {
				t.Fatalf("beside the error %d there is changed something", e)
			}
		}
		p.Body = nil
		_, _, e = a.handle(r, a.signed(by, p))
		a.is("no body", e, api.ErrForm)
		if done == 0 {
			t.Errorf("of the packet %d no other body is done", i)
		}
	}
}

func TestAnyBytes(t *testing.T) {
	a := termer(t)
	r, _ := a.busy()
	d := drawer(6)
	for n := range 300 {
		a.handle(r, d.text(n))
	}
	for _, b := range [][]byte{nil, {}, {0}, {6}, make([]byte, 70000), joined(), joined(nil, nil, nil, nil, nil, nil), joined([]byte{20}, []byte{1}, []byte{1}, joined(), nil, make([]byte, 64))} {
		if _, out, e := a.handle(r, b); e == api.OK || len(out) != 0 {
			t.Errorf("%x: %d", b[:min(20, len(b))], e)
		}
	}
	for range 2000 {
		p := api.Packet{From: byte(d.below(36)), To: 1, Kind: byte(1 + d.below(4)), Body: d.text(d.below(9))}
		if d.below(2) == 0 {
			p.Chain = a.chain(p.From%4, d.below(3), 0, 1, 2)
		}
		p.Body, _ = wire.PutTrans(api.Trans{Id: uint16(d.below(9)), Items: d.items(d.below(5))})
		if d.below(2) == 0 {
			p.Body, _ = wire.PutCall(d.call())
		}
		by := secret(p.From%4, byte(len(p.Chain)))
		if p.From >= 16 {
			by = run(120 + p.From - 16)
		}
		a.handle(r, a.signed(by, p))
	}
}

// call is one of any kind.
func (d *drawer) call() api.Call {
	c := api.Call{Kind: byte(1 + d.below(4)), Seq: uint16(d.below(6))}
	switch c.Kind {
	case api.CallUpload:
		for range d.below(10) {
			c.Bundles = append(c.Bundles, d.bundle())
		}
	case api.CallClaim:
		c.Peer = byte(d.below(20))
	case api.CallPost:
		c.Letter = letter(byte(d.below(20)), byte(d.below(20)), "body").Letter
	default:
		c.Since = uint16(d.below(12))
	}
	return c
}

// strange is a server of any fields, of which some can't be written, that knows the devices and servers of the others.
func (a asker) strange(d *drawer) api.Relay {
	r := d.relay()
	q := a.relay(byte(d.below(4)), byte(d.below(4)))
	r.Server, r.Cache.First, r.Cache.Highest = q.Server, q.Cache.First, [4]byte{}
	for n := range 4 {
		r.Homes[n].Agree, r.Homes[n].Signer = q.Homes[n].Agree, q.Homes[n].Signer
		r.Homes[n].Seq, r.Last[n] = uint16(d.below(4)), uint16(d.below(4))
		r.Homes[n].Inbox.Id %= 12
		switch d.below(12) {
		case 0:
			r.Queues[n].Sent = d.below(40) - 20
		case 1:
			r.Queues[n].Items = append(d.items(d.below(9)), api.Item{Kind: 9, Asker: 3})
		case 2:
			r.Homes[n].Inbox.Items = append([]api.Item{{Kind: 9, Asker: 3}}, d.items(d.below(9))...)
		case 3:
			r.Homes[n].Inbox = filled(d.below(12), uint16(65530+d.below(6)))
		case 4:
			r.Homes[n].Inbox.Items = []api.Item{long(1, 2, 3000), long(1, 2, 4000)}
		case 5:
			r.Homes[n].Reply, r.Acks[n] = make([]byte, 4096), make([]byte, 4097)
		case 6:
			r.Homes[n].Shelf.Left = append(r.Homes[n].Shelf.Left, r.Homes[n].Shelf.Left...)
		}
	}
	switch d.below(10) {
	case 0:
		r.Chain = []api.Object{d.object(5)}
	case 1:
		r.Chain = make([]api.Object, 5+d.below(300))
	case 2:
		r.Turn = d.object(70)
	case 3:
		r.Server = d.byte()
	}
	return r
}

// Whatever the server is like, it answers.
func TestStrangeServers(t *testing.T) {
	a := termer(t)
	d := drawer(7)
	done := 0
	for range 400 {
		r := a.strange(&d)
		rows(t, r)
		a.tick(r)
		a.rotate(r, run(1))
		caller := byte(d.below(16))
		if d.below(4) > 0 {
			caller = r.Server*4 + byte(d.below(4))
		}
		for range 6 {
			p := a.callOf(caller, d.call())
			p.To = r.Server
			if _, _, e := a.handle(r, a.signed(run(120+caller), p)); e == api.OK {
				done++
			}
			o := byte(d.below(4))
			x := api.Trans{Id: uint16(d.below(5)), Items: d.items(d.below(5))}
			if d.below(2) == 0 {
				x.Id = r.Queues[o].Id
			}
			if _, _, e := a.handle(r, a.signed(secret(o, 0), a.transOf(o, r.Server, byte(3+d.below(2)), x))); e == api.OK {
				done++
			}
		}
	}
	if done < 400 {
		t.Errorf("%d packets are done", done)
	}
	relay.New(a.s, 255, api.Key{}, api.Cache{}, [4]api.Home{})
}

// Rows of any kind are a server's, or aren't.
func TestStrangeRows(t *testing.T) {
	d := drawer(8)
	for range 2000 {
		var l []api.Change
		for _, name := range names() {
			if d.below(3) == 0 {
				continue
			}
			c := api.Change{Name: name, Value: joined(d.text(d.below(33)), d.text(d.below(33)), d.text(d.below(3))), Gone: d.below(20) == 0}
			if d.below(3) == 0 {
				c.Value = d.text(d.below(5))
			}
			l = append(l, c)
		}
		load(t, l)
	}
}
