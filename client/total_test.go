package client_test

import (
	"bytes"
	"testing"

	"missive/api"
	"missive/suite"
	"missive/wire"
)

// P23.7

// busy is a device in the midst of all that it may be in; what comes to it in right is taken.
func (a asker) busy() (devices []api.Client, right [][]byte) {
	a.Helper()
	c := a.device(5, 2, 4, 6)
	c.Account = owned(5, 1, 2)
	c = a.says(c, 2, "one", "two")
	c = a.says(c, 4, "three")
	c.Peers[0].Asked = true
	v, w := a.writer(4, c, 1), a.writer(6, c, 2)
	l := []api.Item{a.writes(v, 5, 1, "first"), give(5, a.bundles(2, 3)[1]), a.writes(v, 5, 3, "third"), a.writes(w, 5, 1, "hello")}
	add := func(c api.Client, b []byte) {
		devices, right = append(devices, c), append(right, b)
	}
	x := a.syncing(c)
	add(x, a.replies(x, api.OK, l...))
	c, _ = a.takes(c, l...)
	x = a.syncing(c)
	add(x, a.replies(x, api.OK, a.writes(v, 5, 2, "second"), none(5, 2), none(5, 6)))
	x = a.syncing(c)
	p := a.replyOf(x, api.Reply{Seq: x.Seq, From: x.Since + 1, Items: []api.Item{a.writes(w, 5, 3, "there")}})
	p.Chain = a.chain(1, 2, 0, 3)
	add(x, a.signed(secret(1, 2), p))
	x, _ = a.ticked(c)
	add(x, a.replies(x, api.OK))
	x.Synced, x.Doing, x.Known, x.Up = true, nil, true, 99
	x, _ = a.ticked(x)
	add(x, a.replies(x, api.OK))
	add(x, a.replies(x, api.ErrFull))
	x = a.calling(c, api.Call{Kind: api.CallClaim, Peer: 6})
	add(x, a.replies(x, api.ErrNone))
	return devices, right
}

// What isn't brought as it was sent is refused, and the device is as it was.
func TestSpoiltPackets(t *testing.T) {
	a := termer(t)
	devices, right := a.busy()
	d := drawer(4)
	for i, b := range right {
		c := devices[i]
		if got, _, e := a.handle(c, b, run(1)); e != api.OK || differs(got, c) == "" {
			t.Fatalf("the packet %d: %d", i, e)
		}
		for at := range b {
			step := 1 + len(b)/200
			if at%step != i%step {
				continue
			}
			for _, x := range []byte{b[at] ^ 1, b[at] + 128, d.byte()} {
				other := bytes.Clone(b)
				if other[at] = x; x == b[at] {
					continue
				}
				if got, heard, e := a.handle(c, other, run(1)); e == api.OK || differs(got, c) != "" || len(heard) != 0 {
					t.Fatalf("the packet %d with another byte %d is taken", i, at)
				}
			}
			if _, _, e := a.handle(c, b[:at], run(1)); e != api.ErrForm {
				t.Fatalf("the packet %d, cut off: %d", i, e)
			}
		}
		for _, more := range [][]byte{{0}, {1}, b} {
			if _, _, e := a.handle(c, append(bytes.Clone(b), more...), run(1)); e != api.ErrForm {
				t.Fatalf("the packet %d, and more: %d", i, e)
			}
		}
	}
}

func TestSpoiltPacketsReally(t *testing.T) {
	a := reckoner(t)
	devices, right := a.busy()
	for i, b := range right {
		for at := i; at < len(b); at += 1 + len(b)/6 {
			other := bytes.Clone(b)
			other[at] ^= 4
			if _, heard, e := a.handle(devices[i], other, run(1)); e == api.OK || len(heard) != 0 {
				t.Fatalf("the packet %d with another byte %d is taken", i, at)
			}
		}
	}
}

// Bodies of any bytes, signed as they should be.
func TestAnyBodies(t *testing.T) {
	a := termer(t)
	devices, right := a.busy()
	d := drawer(5)
	for i, b := range right {
		c := devices[i]
		p, e := wire.GetPacket(b)
		a.is("the packet", e, api.OK)
		by := secret(1, byte(len(p.Chain)))
		whole, taken := p.Body, 0
		for range 400 {
			p.Body = bytes.Clone(whole)
			for range 1 + d.below(2) {
				at := d.below(len(whole))
				switch d.below(5) {
				case 0:
					p.Body[min(at, len(p.Body)-1)]++
				case 1:
					p.Body[min(at, len(p.Body)-1)] = byte(d.below(20))
				case 2:
					p.Body = append(p.Body, byte(d.below(3)))
				case 3:
					p.Body = p.Body[:max(1, len(p.Body)-1)]
				default:
					p.Body[min(at, len(p.Body)-1)] = d.byte()
				}
			}
			got, heard, e := a.handle(c, a.signed(by, p), run(1))
			if e == api.OK {
				taken++
			} else if differs(got, c) != "" || len(heard) != 0 {
				t.Fatalf("beside the error %d there is changed something", e)
			}
		}
		p.Body = nil
		_, _, e = a.handle(c, a.signed(by, p), run(1))
		a.is("no body", e, api.ErrForm)
		if taken == 0 {
			t.Errorf("of the packet %d no other body is taken", i)
		}
	}
}

func TestAnyBytes(t *testing.T) {
	a := termer(t)
	devices, _ := a.busy()
	d := drawer(6)
	for n := range 300 {
		a.handle(devices[n%len(devices)], d.text(n), run(1))
	}
	for _, b := range [][]byte{nil, {}, {0}, {6}, make([]byte, 70000), joined(), joined(nil, nil, nil, nil, nil, nil), joined([]byte{1}, []byte{21}, []byte{2}, joined(), nil, make([]byte, 64))} {
		if _, heard, e := a.handle(devices[0], b, run(1)); e == api.OK || len(heard) != 0 {
			t.Errorf("%x: %d", b[:min(20, len(b))], e)
		}
	}
}

// item is one of any kind, and of any fields, some of what the peers sent.
func (d *drawer) item(a asker, l []api.Item) api.Item {
	asker, peer := byte(d.below(8)), byte(d.below(8))
	switch d.below(7) {
	case 0:
		x := api.Letter{From: peer, To: asker, Header: api.Header{Session: d.key(), Ratchet: d.key(), N: d.number(), Prev: d.number()}, Body: d.text(d.below(80))}
		if d.yes() {
			x.Header.First, x.Header.Agree, x.Header.Signer, x.Header.Base, x.Header.Id = true, d.key(), d.key(), d.key(), uint16(d.below(9))
		}
		return api.Item{Kind: api.ItemLetter, Letter: x}
	case 1:
		return api.Item{Kind: api.ItemAsk, Asker: asker, Peer: peer}
	case 2:
		return give(asker, api.Bundle{Device: peer, Agree: d.key(), Signer: d.key(), Id: d.number(), Once: d.key(), Sig: api.Sig(d.text(64))})
	case 3:
		return none(asker, peer)
	case 4:
		return api.Item{Kind: byte(api.ItemVouch + d.below(2)), Object: a.object(byte(d.below(4)), 1, 3, 0)}
	}
	return l[d.below(len(l))]
}

// Replies of any kind to what is being done.
func TestAnyReplies(t *testing.T) {
	a := termer(t)
	devices, right := a.busy()
	p, _ := wire.GetPacket(right[0])
	y, e := wire.GetReply(p.Body)
	a.is("the reply", e, api.OK)
	d := drawer(7)
	taken := 0
	for range 3000 {
		c := devices[d.below(len(devices))]
		if d.yes() {
			c = a.calling(c, d.call())
		}
		x := api.Reply{Seq: c.Seq, From: c.Since + 1, Why: byte(d.below(2) * d.below(256))}
		switch d.below(20) {
		case 0:
			x.Seq = d.number()
		case 1:
			x.From = d.number()
		}
		for range d.below(5) {
			x.Items = append(x.Items, d.item(a, y.Items))
		}
		q := a.replyOf(c, x)
		if d.below(3) == 0 {
			q.Chain = a.chain(1, d.below(3), 0, 2)
		}
		if _, _, e := a.handle(c, a.signed(secret(1, byte(len(q.Chain))), q), d.key()); e == api.OK {
			taken++
		}
	}
	if taken < 2000 {
		t.Errorf("%d are taken", taken)
	}
}

// call is one of any kind.
func (d *drawer) call() api.Call {
	switch d.below(4) {
	case 0:
		return api.Call{Kind: api.CallUpload, Bundles: make([]api.Bundle, d.below(10))}
	case 1:
		return api.Call{Kind: api.CallClaim, Peer: byte(d.below(20))}
	case 2:
		return api.Call{Kind: api.CallPost, Letter: api.Letter{From: 5, To: byte(d.below(8)), Body: d.text(d.below(50))}}
	}
	return api.Call{Kind: api.CallSync, Since: d.number()}
}

// strange is a device of any fields, of which some can't be written, that knows the servers and devices of the others.
func (a asker) strange(d *drawer) api.Client {
	a.Helper()
	c := d.client()
	c.Device = byte(d.below(8))
	c.Cache = a.cache(0)
	c.Doing = nil
	switch d.below(4) {
	case 0:
		c.Account = owned(c.Device, 1, 2)
	case 1:
		c.Account = d.account(d.below(80))
	case 2:
		c.Account.Left = append(owned(c.Device, 1, 1, 0).Left, c.Account.Left...)
	}
	if d.below(4) == 0 {
		c.Seq = uint16(65530 + d.below(6))
	}
	if d.yes() {
		c.Again, _ = wire.PutCall(d.call())
	}
	for range d.below(12) {
		p := d.peer(byte(d.below(9)))
		switch d.below(6) {
		case 0:
			p.Out = append(p.Out, d.saids(d.below(100))...)
		case 1:
			p.Held = append(p.Held, d.saids(d.below(100))...)
		case 2:
			p.Sessions = append(p.Sessions, d.session(40), d.session(0))
		case 3:
			p.Out = []api.Said{{Body: make([]byte, d.below(9000))}}
		case 4:
			p.Print, p.Last = a.print(p.Device), uint16(d.below(4))
		}
		c.Peers = append(c.Peers, p)
	}
	return c
}

// Whatever the device is like, it answers.
func TestStrangeDevices(t *testing.T) {
	a := termer(t)
	d := drawer(8)
	taken := 0
	for range 400 {
		c := a.strange(&d)
		rows(t, c)
		a.trust(c, byte(d.below(20)), d.key())
		a.say(c, byte(d.below(20)), d.text(d.below(70)))
		got, _ := a.tick(c, d.key())
		got.Synced, got.Doing = true, nil
		a.tick(got, d.key())
		for range 4 {
			x := a.syncing(c)
			if d.yes() {
				x = a.calling(c, d.call())
			}
			w := both(a, func(s suite.Suite) api.Client { return api.Client{Device: x.Device, Account: owned(x.Device, 1, 2)} })
			from := byte(d.below(9))
			l := []api.Item{a.writes(a.writer(from, w, uint16(d.below(3))), x.Device, uint16(d.below(5)), "text"), give(x.Device, a.bundles(from, 1)[1])}
			y := api.Reply{Seq: x.Seq, From: x.Since + 1}
			for range d.below(5) {
				y.Items = append(y.Items, d.item(a, l))
			}
			if _, _, e := a.handle(x, a.signed(secret(x.Device/4, 0), a.replyOf(x, y)), d.key()); e == api.OK {
				taken++
			}
		}
	}
	if taken < 1200 {
		t.Errorf("%d packets are taken", taken)
	}
}

// Rows of any kind are a device's, or aren't.
func TestStrangeRows(t *testing.T) {
	d := drawer(9)
	for range 2000 {
		var l []api.Change
		for _, name := range names() {
			if d.below(3) == 0 {
				continue
			}
			c := api.Change{Name: name, Value: joined(d.text(d.below(33)), d.text(d.below(33)), d.text(d.below(3))), Gone: d.below(20) == 0}
			if d.below(3) == 0 {
				c.Value = d.text(d.below(5))
			}
			l = append(l, c)
		}
		load(t, l)
	}
}
