package relay_test

import (
	"bytes"
	"fmt"
	"testing"

	"missive/api"
	"missive/fedq"
	"missive/suite"
	"missive/wire"
)

// P22.2, of calls

// first is the first error of those that hold: bit i of holds says whether the error i does.
func first(holds int, l []api.Errno) api.Errno {
	for i, e := range l {
		if holds>>i&1 == 1 {
			return e
		}
	}
	return api.OK
}

// What may be wrong with a call, each beside each.
func TestCallTheFirstErrorIsTold(t *testing.T) {
	errors := []api.Errno{api.ErrKind, api.ErrArg, api.ErrKind, api.ErrPeer, api.ErrForm, api.ErrSign, api.ErrForm, api.ErrOrder}
	for _, a := range askers(t) {
		r := a.relay(1, 1)
		r.Homes[2].Seq = 8
		for holds := range 1 << len(errors) {
			if a.s.Terms() == nil && holds%8 != 0 && holds%37 != 0 {
				continue
			}
			is := func(i int) bool { return holds>>i&1 == 1 }
			c := api.Call{Kind: api.CallSync, Seq: 9}
			if is(7) {
				c.Seq = 10
			}
			p := a.callOf(6, c)
			by := run(120 + 6)
			if is(6) {
				p.Body = p.Body[1:]
			}
			if is(5) {
				by = run(120 + 5)
			}
			if is(4) {
				p.Chain = a.chain(1, 1)
			}
			if is(3) {
				p.From = 16 + 7
			}
			if is(2) {
				p.Kind = api.PackReply
			}
			if is(1) {
				p.To = 0
			}
			b := a.signed(by, p)
			if is(0) {
				b = bytes.Replace(b, []byte{0, 1, p.From, 0, 1, p.To, 0, 1, p.Kind}, []byte{0, 1, p.From, 0, 1, p.To, 0, 1, 5}, 1)
			}
			_, out, e := a.handle(r, b)
			a.is(fmt.Sprintf("the call %b", holds), e, first(holds, errors))
			if e != api.OK && len(out) != 0 {
				t.Fatalf("beside the error %d there is sent %x", e, out)
			}
		}
	}
}

// What is no call has no number, not even that of a device that hasn't called yet.
func TestNoCallIsNotAnsweredAgain(t *testing.T) {
	for _, a := range askers(t) {
		r := a.relay(1, 0)
		r.Homes[2].Reply = []byte("a reply to nothing")
		p := a.callOf(6, api.Call{Kind: api.CallSync})
		_, out, e := a.handle(r, a.signed(run(126), p))
		if e != api.OK || len(out) != 1 {
			t.Fatalf("the call 0, which has a reply: %d", e)
		}
		for body, want := range map[string]api.Errno{"": api.ErrForm, "body": api.ErrForm, "\x01\x00\x01\x07": api.ErrKind} {
			p.Body = []byte(body)
			_, _, e = a.handle(r, a.signed(run(126), p))
			a.is("no call", e, want)
		}
	}
}

func TestWhoMayCall(t *testing.T) {
	a := termer(t)
	for _, server := range []byte{0, 1, 2, 3, 4, 16, 63, 200, 255} {
		r := a.relay(server%4, 1)
		r.Server = server
		for from := range 256 {
			d := byte(from - 16)
			p := a.callOf(d, api.Call{Kind: api.CallSync, Seq: 1})
			p.To = server
			_, _, e := a.handle(r, a.signed(run(120+d), p))
			if right := from >= 16 && from < 32 && d/4 == server && d%4 != 3; right != (e == api.OK) || !right && e != api.ErrPeer {
				t.Fatalf("a call of the node %d to the server %d: %d", from, server, e)
			}
		}
	}
}

// A home without a Signer has nobody, a home without anything else has.
func TestWhoIsThere(t *testing.T) {
	for _, a := range askers(t) {
		r := a.relay(2, 0)
		r.Homes[1].Agree = api.Key{}
		_, y := a.called(r, 9, api.Call{Kind: api.CallSync})
		if y.Why != 0 {
			t.Error("a device without an agreement key:", y)
		}
		none := with(r, func(r *api.Relay) { r.Homes[1].Signer = api.Key{} })
		_, _, e := a.handle(none, a.calls(9, api.Call{Kind: api.CallSync, Seq: 1}))
		a.is("a device without a signer", e, api.ErrPeer)
		last := with(r, func(r *api.Relay) { r.Homes[1].Signer = api.Key{31: 1} })
		_, _, e = a.handle(last, a.calls(9, api.Call{Kind: api.CallSync, Seq: 1}))
		a.is("another signer", e, api.ErrSign)
	}
}

// A signature holds for one packet alone.
func TestCallsAreSigned(t *testing.T) {
	for _, a := range askers(t) {
		r := a.relay(0, 0)
		r.Homes[1].Signer = r.Homes[0].Signer
		p, e := wire.GetPacket(a.calls(0, api.Call{Kind: api.CallClaim, Seq: 1, Peer: 1}))
		a.is("the packet", e, api.OK)
		for i, change := range []func(p *api.Packet){
			func(p *api.Packet) {},
			func(p *api.Packet) { p.From++ },
			func(p *api.Packet) { p.Body[len(p.Body)-1]++ },
			func(p *api.Packet) { p.Sig[0]++ },
			func(p *api.Packet) { p.Sig[31]++ },
			func(p *api.Packet) { p.Sig[63]++ },
			func(p *api.Packet) { p.Sig = api.Sig{} },
		} {
			q := p
			q.Body = bytes.Clone(p.Body)
			change(&q)
			b, _ := wire.PutPacket(q)
			_, _, e := a.handle(r, b)
			if (e == api.OK) != (i == 0) || i > 0 && e != api.ErrSign {
				t.Fatalf("the change %d of a packet: %d", i, e)
			}
		}
	}
}

func TestCallNumbers(t *testing.T) {
	a := termer(t)
	l := []uint16{0, 1, 2, 3, 127, 128, 255, 256, 257, 32767, 32768, 65533, 65534, 65535}
	for _, was := range l {
		for _, reply := range [][]byte{nil, {7}} {
			r := a.relay(0, 0)
			r.Homes[1].Seq, r.Homes[1].Reply = was, reply
			r.Queues[2] = filled(1, 5)
			for _, seq := range l {
				q, out, e := a.handle(r, a.calls(1, api.Call{Kind: api.CallClaim, Seq: seq, Peer: 77}))
				switch {
				case seq == was && reply != nil:
					if p := a.sent(q, out); e != api.OK || len(p) != 1 || !bytes.Equal(p[0].Body, reply) {
						t.Fatalf("the call %d again: %d %v", seq, e, p)
					}
					if d := differs(q, r); d != "" {
						t.Fatalf("the call %d again changed %s", seq, d)
					}
				case int(seq) == int(was)+1:
					if y := a.replied(q, out, 1); e != api.OK || y.Seq != seq || api.Errno(y.Why) != api.ErrNone || q.Homes[1].Seq != seq || len(out) != 2 {
						t.Fatalf("the call %d behind %d: %d %v", seq, was, e, y)
					}
				default:
					a.is(fmt.Sprint("the call ", seq, " behind ", was), e, api.ErrOrder)
				}
			}
		}
	}
}

// P22.6: the same call again, or another one of that number, has the same reply, signed by the key of then, and changes nothing.
func TestCallAgain(t *testing.T) {
	for _, a := range askers(t) {
		r := a.relay(0, 0)
		r.Homes[1].Shelf = a.shelf(1, 1, 2)
		r.Homes[0].Inbox.Id = 6
		b := a.calls(0, api.Call{Kind: api.CallClaim, Seq: 1, Peer: 1})
		r, out, e := a.handle(r, b)
		a.is("a claim", e, api.OK)
		if r.Homes[1].Shelf.Left[0].Id != 2 || len(r.Homes[0].Inbox.Items) != 1 || r.Homes[0].Inbox.Id != 7 {
			t.Fatalf("behind a claim: %v, %s", r.Homes[1].Shelf, brief(r.Homes[0].Inbox))
		}
		once := a.replied(r, out, 0)
		r, _, e = a.rotate(r, run(3))
		a.is("Rotate", e, api.OK)
		if r.Secret == r.First || len(r.Chain) != 1 {
			t.Fatal("there is no new key")
		}
		// Something is to be sent; but this isn't the moment.
		r.Queues[1] = filled(2, 3)
		for _, again := range [][]byte{b, b, a.calls(0, api.Call{Kind: api.CallPost, Seq: 1, Letter: letter(0, 1, "x").Letter})} {
			q, out, e := a.handle(r, again)
			a.is("a claim again", e, api.OK)
			if y := a.replied(q, out, 0); len(out) != 1 || y.Why != once.Why || y.Seq != 1 || len(y.Items) != 0 {
				t.Fatalf("a claim again: %v, and %d are sent", y, len(out))
			}
			if d := differs(q, r); d != "" {
				t.Fatalf("a claim again changed %s", d)
			}
		}
		_, _, e = a.handle(r, a.signed(run(121), a.callOf(0, api.Call{Kind: api.CallClaim, Seq: 1, Peer: 1})))
		a.is("a claim again, signed by another", e, api.ErrSign)
	}
}

// What a sync was answered it is answered again, though the inbox has more by then.
func TestSyncAgain(t *testing.T) {
	for _, a := range askers(t) {
		r := a.relay(0, 0)
		r, _ = a.called(r, 0, api.Call{Kind: api.CallPost, Letter: letter(0, 1, "one").Letter})
		b := a.calls(1, api.Call{Kind: api.CallSync, Seq: 1})
		r, out, _ := a.handle(r, b)
		if y := a.replied(r, out, 1); len(y.Items) != 1 || y.From != 1 {
			t.Fatalf("a sync: %v", y)
		}
		r, _ = a.called(r, 0, api.Call{Kind: api.CallPost, Letter: letter(0, 1, "two").Letter})
		r, out, _ = a.handle(r, b)
		if y := a.replied(r, out, 1); len(y.Items) != 1 || y.From != 1 || len(r.Homes[1].Inbox.Items) != 2 {
			t.Fatalf("the sync again: %v", y)
		}
		_, y := a.called(r, 1, api.Call{Kind: api.CallSync})
		if len(y.Items) != 2 || y.From != 1 || string(y.Items[1].Letter.Body) != "two" {
			t.Fatalf("another sync: %v", y)
		}
	}
}

func TestUpload(t *testing.T) {
	for _, a := range askers(t) {
		r := a.relay(2, 0)
		r.Homes[1].Shelf = a.shelf(9, 3, 4, 5)
		good := func(ids ...uint16) []api.Bundle { return a.bundles(8, ids...) }
		foreign := a.bundles(9, 1)
		unsigned := good(1, 2)
		unsigned[2].Sig[3]++
		full := with(r, func(r *api.Relay) { r.Homes[0].Shelf = a.shelf(8, 1, 2, 3, 4, 5, 6, 7) })
		for _, c := range []struct {
			r    api.Relay
			l    []api.Bundle
			want api.Errno
		}{
			{r, good(), api.OK},
			{r, good(1), api.OK},
			{r, good(1, 2, 3, 4, 5, 6, 7, 8), api.OK},
			{full, good(8), api.OK},
			{full, good(), api.OK},
			{r, nil, api.ErrForm},
			{r, good(1)[1:], api.ErrForm},
			{r, good(2, 1), api.ErrForm},
			{full, good(7), api.ErrForm},
			{r, foreign, api.ErrSign},
			{r, unsigned, api.ErrSign},
			{full, good(8, 9), api.ErrFull},
		} {
			q, y := a.called(c.r, 8, api.Call{Kind: api.CallUpload, Bundles: c.l})
			a.is(fmt.Sprintf("Upload of %d", len(c.l)), api.Errno(y.Why), c.want)
			if y.From != 0 || len(y.Items) != 0 {
				t.Fatalf("Upload is answered %v", y)
			}
			left := len(c.r.Homes[0].Shelf.Left)
			if c.want == api.OK {
				left += len(c.l) - 1
			}
			if x := q.Homes[0].Shelf; len(x.Left) != left || c.want == api.OK && x.Fallback != c.l[0] {
				t.Fatalf("behind Upload of %d there are left %d", len(c.l), len(x.Left))
			}
			q.Homes[0] = c.r.Homes[0]
			if d := differs(q, c.r); d != "" {
				t.Fatalf("Upload changed %s", d)
			}
		}
	}
}

// Whom a device may ask for, at home and elsewhere; the server 3 isn't there.
func TestClaimOfEachPeer(t *testing.T) {
	a := termer(t)
	for _, server := range []byte{0, 1, 2} {
		r := a.relay(server, 0)
		r.Cache.First[3] = api.Key{}
		caller := 4*server + 1
		for _, place := range []byte{0, 1} {
			r.Homes[place].Shelf = a.shelf(4*server+place, 1, 2)
		}
		for peer := range 256 {
			q, y := a.called(r, caller, api.Call{Kind: api.CallClaim, Peer: byte(peer)})
			o, want := peer/4, api.OK
			if o > 2 || peer == int(4*server+3) {
				want = api.ErrNone
			}
			a.is(fmt.Sprint("a claim of ", peer), api.Errno(y.Why), want)
			items := q.Homes[1].Inbox.Items
			waits := waiting(q) - len(items)
			switch {
			case want != api.OK:
				if len(items)+waits != 0 {
					t.Fatalf("a claim of %d is handed on", peer)
				}
			case o != int(server):
				if waits != 1 || !sameItem(q.Queues[o].Items[0], ask(caller, byte(peer))) {
					t.Fatalf("a claim of %d: %d wait", peer, waits)
				}
			case peer == int(4*server+2):
				if waits != 0 || len(items) != 1 || !sameItem(items[0], none(caller, byte(peer))) {
					t.Fatalf("a claim of %d, which has no keys: %v", peer, items)
				}
			default:
				if waits != 0 || len(items) != 1 || !sameItem(items[0], give(caller, r.Homes[peer%4].Shelf.Left[0])) || len(q.Homes[peer%4].Shelf.Left) != 1 {
					t.Fatalf("a claim of %d: %v", peer, items)
				}
			}
		}
	}
}

// Of one's own server it is asked whether the device is there alone.
func TestClaimWhereTheServerHasNoFirstKey(t *testing.T) {
	for _, a := range askers(t) {
		r := a.relay(1, 0)
		r.Cache.First[1] = api.Key{}
		_, y := a.called(r, 4, api.Call{Kind: api.CallClaim, Peer: 5})
		a.is("a claim at home", api.Errno(y.Why), api.OK)
		_, y = a.called(r, 4, api.Call{Kind: api.CallPost, Letter: letter(4, 5, "").Letter})
		a.is("a letter at home", api.Errno(y.Why), api.OK)
	}
}

// A shelf gives its keys one by one, then the fallback, again and again.
func TestClaimOfAllKeys(t *testing.T) {
	for _, a := range askers(t) {
		r := a.relay(0, 0)
		r.Homes[2].Shelf = a.shelf(2, 1, 2)
		l := a.bundles(2, 1, 2)
		for i, want := range []api.Bundle{l[1], l[2], l[0], l[0]} {
			r, _ = a.called(r, 0, api.Call{Kind: api.CallClaim, Peer: 2})
			if items := r.Homes[0].Inbox.Items; len(items) != i+1 || items[i].Bundle != want || items[i].Asker != 0 {
				t.Fatalf("the claim %d: %v", i, items)
			}
		}
		// One's own keys are claimed like others'.
		r, _ = a.called(r, 2, api.Call{Kind: api.CallClaim, Peer: 2})
		if items := r.Homes[2].Inbox.Items; len(items) != 1 || !sameItem(items[0], give(2, l[0])) {
			t.Fatalf("a claim of one's own keys: %v", items)
		}
	}
}

// Where the inbox, or the queue, takes no more nothing is claimed.
func TestClaimWithoutRoom(t *testing.T) {
	for _, a := range askers(t) {
		for _, c := range []struct {
			items int
			id    uint16
			want  api.Errno
		}{
			{0, 0, api.OK}, {7, 7, api.OK}, {0, 65533, api.OK}, {7, 65533, api.OK},
			{8, 8, api.ErrFull}, {9, 9, api.ErrFull}, {8, 65534, api.ErrFull},
			{0, 65534, api.ErrCount}, {7, 65534, api.ErrCount}, {0, 65535, api.ErrCount},
		} {
			r := a.relay(0, 0)
			r.Homes[0].Inbox = filled(c.items, c.id)
			for _, peer := range []byte{0, 1, 2} {
				if peer != 2 {
					r.Homes[peer].Shelf = a.shelf(peer, 1, 2)
				}
				q, y := a.called(r, 0, api.Call{Kind: api.CallClaim, Peer: peer})
				a.is(fmt.Sprintf("a claim of %d with %d items up to %d", peer, c.items, c.id), api.Errno(y.Why), c.want)
				if inbox := q.Homes[0].Inbox; c.want == api.OK && (inbox.Id != c.id+1 || len(inbox.Items) != c.items+1) {
					t.Fatalf("behind a claim the inbox is %s", brief(inbox))
				}
				q.Homes[0].Seq, q.Homes[0].Reply = 0, nil
				if d := differs(q, r); (c.want == api.OK) != (d != "") {
					t.Fatalf("a claim of %d, %d, changed %s", peer, y.Why, d)
				}
			}
			q := with(r, func(r *api.Relay) { r.Queues[1] = filled(c.items, c.id) })
			_, y := a.called(q, 0, api.Call{Kind: api.CallClaim, Peer: 4})
			if full := c.items >= 8; full != (api.Errno(y.Why) == api.ErrFull) || !full && y.Why != 0 {
				t.Fatalf("a claim of another server's, with %d that wait: %d", c.items, y.Why)
			}
		}
	}
}

// Whose letters, and to whom.
func TestPostOfEachLetter(t *testing.T) {
	a := termer(t)
	r := a.relay(1, 0)
	r.Cache.First[3] = api.Key{}
	for n := range 256 {
		q, y := a.called(r, 6, api.Call{Kind: api.CallPost, Letter: letter(byte(n), 4, "by").Letter})
		want, posted := api.ErrArg, 0
		if n == 6 {
			want, posted = api.OK, 1
		}
		a.is(fmt.Sprint("a letter of ", n), api.Errno(y.Why), want)
		if len(q.Homes[0].Inbox.Items) != posted || waiting(q) != posted {
			t.Fatalf("a letter of %d: %s", n, brief(q.Homes[0].Inbox))
		}
		x := letter(6, byte(n), "to")
		q, y = a.called(r, 6, api.Call{Kind: api.CallPost, Letter: x.Letter})
		if want, posted = api.OK, 1; n > 11 || n == 7 {
			want, posted = api.ErrNone, 0
		}
		a.is(fmt.Sprint("a letter to ", n), api.Errno(y.Why), want)
		var at []api.Item
		if n/4 == 1 {
			at = q.Homes[n%4].Inbox.Items
		} else if n < 12 {
			at = q.Queues[n/4].Items
		}
		if waiting(q) != posted || len(at) != posted || posted == 1 && !sameItem(at[0], x) {
			t.Fatalf("a letter to %d: %v", n, at)
		}
		x.Letter.From = 5
		_, y = a.called(r, 6, api.Call{Kind: api.CallPost, Letter: x.Letter})
		a.is(fmt.Sprint("another's letter to ", n), api.Errno(y.Why), api.ErrArg)
	}
}

// waiting is how many items there are in a server's inboxes and queues.
func waiting(r api.Relay) (n int) {
	for i := range 4 {
		n += len(r.Homes[i].Inbox.Items) + len(r.Queues[i].Items)
	}
	return n
}

func TestPostWithoutRoom(t *testing.T) {
	for _, a := range askers(t) {
		for _, c := range []struct {
			items, size int
			id          uint16
			want, queue api.Errno
		}{
			{0, 900, 0, api.OK, api.OK},
			{0, 901, 0, api.ErrLong, api.ErrLong},
			{0, 3000, 0, api.ErrLong, api.ErrLong},
			{7, 900, 7, api.OK, api.OK},
			{8, 300, 8, api.ErrFull, api.ErrFull},
			{8, 901, 65534, api.ErrLong, api.ErrLong},
			{8, 300, 65534, api.ErrFull, api.ErrFull},
			{7, 300, 65533, api.OK, api.OK},
			{7, 300, 65534, api.ErrCount, api.OK},
			{0, 300, 65535, api.ErrCount, api.OK},
			{0, 901, 65535, api.ErrLong, api.ErrLong},
		} {
			r := a.relay(0, 0)
			r.Homes[1].Inbox, r.Queues[2] = filled(c.items, c.id), filled(c.items, c.id)
			for to, want := range map[byte]api.Errno{1: c.want, 8: c.queue} {
				x := long(0, to, c.size)
				q, y := a.called(r, 0, api.Call{Kind: api.CallPost, Letter: x.Letter})
				a.is(fmt.Sprintf("a letter of %d to %d, with %d items up to %d", c.size, to, c.items, c.id), api.Errno(y.Why), want)
				n := c.items
				if want == api.OK {
					n++
				}
				if l := [][]api.Item{q.Homes[1].Inbox.Items, q.Queues[2].Items}[to/8]; len(l) != n || want == api.OK && !sameItem(l[n-1], x) {
					t.Fatalf("behind a letter to %d there are %d", to, len(l))
				}
			}
		}
	}
}

// All letters of a device to one have numbers of their own, in order.
func TestPostAndSync(t *testing.T) {
	for _, a := range askers(t) {
		r := a.relay(3, 0)
		var posted []api.Item
		for i := range 8 {
			posted = append(posted, letter(12, 13, fmt.Sprint("letter ", i)))
			r, _ = a.called(r, 12, api.Call{Kind: api.CallPost, Letter: posted[i].Letter})
		}
		_, y := a.called(r, 12, api.Call{Kind: api.CallPost, Letter: posted[0].Letter})
		a.is("the ninth letter", api.Errno(y.Why), api.ErrFull)
		for _, c := range []struct{ since, from, items int }{{0, 1, 4}, {0, 1, 4}, {3, 4, 4}, {4, 5, 4}, {2, 5, 4}, {6, 7, 2}, {8, 9, 0}, {8, 9, 0}, {0, 9, 0}, {1, 9, 0}} {
			var y api.Reply
			r, y = a.called(r, 13, api.Call{Kind: api.CallSync, Since: uint16(c.since)})
			if int(y.From) != c.from || len(y.Items) != c.items || y.Why != 0 {
				t.Fatalf("a sync since %d: %v", c.since, y)
			}
			for i, x := range y.Items {
				if !sameItem(x, posted[c.from-1+i]) {
					t.Fatalf("a sync since %d: the item %d is %v", c.since, i, x)
				}
			}
		}
		was := r.Homes[1].Inbox
		r, y = a.called(r, 13, api.Call{Kind: api.CallSync, Since: 9})
		if api.Errno(y.Why) != api.ErrArg || y.From != 0 || len(y.Items) != 0 || !sameQueue(was, r.Homes[1].Inbox) {
			t.Fatalf("a sync since 9: %v", y)
		}
	}
}

// Each number of items beside each last number, and each Since.
func TestSyncOfEachInbox(t *testing.T) {
	a := termer(t)
	for items := range 10 {
		for _, id := range []int{0, 1, 2, 4, 7, 8, 9, 20, 65534, 65535} {
			r := a.relay(0, 0)
			r.Homes[0].Inbox = filled(items, uint16(id))
			for _, since := range []int{0, 1, 2, 3, 4, 5, 6, 7, 8, 9, 10, 15, 16, 17, 18, 19, 20, 21, 65526, 65529, 65531, 65532, 65533, 65534, 65535} {
				q, y := a.called(r, 0, api.Call{Kind: api.CallSync, Since: uint16(since)})
				if since > id {
					a.is("a sync of what isn't there", api.Errno(y.Why), api.ErrArg)
					if !sameQueue(q.Homes[0].Inbox, r.Homes[0].Inbox) {
						t.Fatalf("a sync of what isn't there changed the inbox")
					}
					continue
				}
				a.is("a sync", api.Errno(y.Why), api.OK)
				left := 0
				for number := id - items + 1; number <= id; number++ {
					if number > since {
						left++
					}
				}
				inbox := q.Homes[0].Inbox
				if len(inbox.Items) != left || int(inbox.Id) != id || len(y.Items) != min(4, left) || y.From != uint16(id-left+1) {
					t.Fatalf("a sync since %d of %d up to %d: %d are left; %d from %d", since, items, id, len(inbox.Items), len(y.Items), y.From)
				}
				for i, x := range y.Items {
					if !sameItem(x, none(byte(items-left+i), 9)) {
						t.Fatalf("a sync since %d of %d up to %d: the item %d is %v", since, items, id, i, x)
					}
				}
			}
		}
	}
}

// Behind each call it is sent what is to be sent, whatever it was answered; first the reply, then by rising numbers.
func TestCallsFlush(t *testing.T) {
	for _, a := range askers(t) {
		for _, c := range []api.Call{{Kind: api.CallSync}, {Kind: api.CallSync, Since: 1}, {Kind: api.CallClaim, Peer: 99}, {Kind: api.CallUpload}, {Kind: api.CallPost}} {
			r := a.relay(2, 0)
			r.Queues[0], r.Queues[1], r.Queues[3] = filled(6, 9), filled(1, 0), filled(3, 65535)
			r.Queues[3].Sent, r.Queues[3].Back = 2, 16
			c.Seq = 1
			q, out, e := a.handle(r, a.calls(8, c))
			a.is("a call", e, api.OK)
			a.replied(q, out, 8)
			l := a.sent(q, out)
			if len(l) != 4 || l[1].To != 0 || l[2].To != 1 || l[3].To != 3 {
				t.Fatalf("there are sent %v", l)
			}
			m := a.trans(q, out)
			if m[0].Id != 10 || len(m[0].Items) != 4 || m[1].Id != 1 || len(m[1].Items) != 1 || m[3].Id != 65535 || len(m[3].Items) != 2 {
				t.Fatalf("there are sent %v", m)
			}
			if q.Queues[0].Sent != 4 || q.Queues[0].Wait != 1 || q.Queues[3].Wait != 16 {
				t.Fatalf("the queues are %s, %s", brief(q.Queues[0]), brief(q.Queues[3]))
			}
			q, out, e = a.handle(q, a.calls(8, api.Call{Kind: api.CallSync, Seq: 2}))
			if e != api.OK || len(out) != 1 {
				t.Fatalf("behind another call there are sent %d", len(out))
			}
		}
	}
}

// Letters that are so long that a full reply, with the server's keys, is too long to be signed: then the signature is zeros.
func TestLongReplies(t *testing.T) {
	for _, a := range askers(t) {
		for _, keys := range []int{0, 4} {
			r := a.relay(0, 0)
			r.Chain, r.Secret = a.chain(0, keys, 1, 2, 3), secret(0, byte(keys))
			for range 4 {
				r, _ = a.called(r, 0, api.Call{Kind: api.CallPost, Letter: long(0, 1, 900).Letter})
			}
			_, out, e := a.handle(r, a.calls(1, api.Call{Kind: api.CallSync, Seq: 1}))
			a.is("a sync", e, api.OK)
			p, e := wire.GetPacket(out[0])
			a.is("the packet", e, api.OK)
			y, e := wire.GetReply(p.Body)
			if e != api.OK || len(y.Items) != 4 || (p.Sig == api.Sig{}) != (keys == 4) {
				t.Errorf("a full reply with %d keys: %d, %x", keys, e, p.Sig)
			}
		}
	}
}

// A call is answered in the bytes of a reply, whatever its kind.
func TestReplyBytes(t *testing.T) {
	a := reckoner(t)
	r := a.relay(0, 0)
	r.Homes[0].Seq = 0x1234
	r, _ = a.called(r, 0, api.Call{Kind: api.CallPost, Letter: letter(0, 200, "").Letter})
	if want := joined([]byte{0x12, 0x35}, []byte{2}, []byte{0, 0}); !bytes.Equal(r.Homes[0].Reply, want) {
		t.Errorf("a letter to nobody is answered %x, want %x", r.Homes[0].Reply, want)
	}
	r.Homes[0].Inbox.Id = 0x4567
	r, _ = a.called(r, 0, api.Call{Kind: api.CallClaim, Peer: 2})
	if want := joined([]byte{0x12, 0x36}, []byte{0}, []byte{0, 0}); !bytes.Equal(r.Homes[0].Reply, want) {
		t.Errorf("a claim is answered %x, want %x", r.Homes[0].Reply, want)
	}
	r, _ = a.called(r, 0, api.Call{Kind: api.CallSync})
	if want := joined([]byte{0x12, 0x37}, []byte{0}, []byte{0x45, 0x68}, joined([]byte{4}, []byte{0}, []byte{2})); !bytes.Equal(r.Homes[0].Reply, want) {
		t.Errorf("a sync is answered %x, want %x", r.Homes[0].Reply, want)
	}
	_, out, e := a.handle(r, a.calls(0, api.Call{Kind: api.CallSync, Seq: 0x1237}))
	a.is("a call again", e, api.OK)
	p := api.Packet{From: 0, To: 16, Kind: 2, Body: r.Homes[0].Reply}
	sig := suite.Real().Sign(r.Secret, packetText(p))
	if want := joined([]byte{0}, []byte{16}, []byte{2}, joined(), p.Body, sig[:]); len(out) != 1 || !bytes.Equal(out[0], want) {
		t.Errorf("a call again is answered %x, want %x", out, want)
	}
}

// Where there is little room for terms signatures are zeros; what is done is done.
func TestCallsInAFullTable(t *testing.T) {
	for room := range 6 {
		a := termer(t)
		r := a.relay(0, 0)
		r.Homes[1].Shelf = a.shelf(1, 1)
		r.Queues[1], r.Queues[2] = filled(1, 0), filled(1, 0)
		b, c := a.calls(0, api.Call{Kind: api.CallClaim, Seq: 1, Peer: 1}), a.calls(0, api.Call{Kind: api.CallClaim, Seq: 2, Peer: 4})
		a.fill(room)
		r, out, e := a.handle(r, b)
		a.is("a claim", e, api.OK)
		r, more, e := a.handle(r, c)
		a.is("another claim", e, api.OK)
		out = append(out, more...)
		for i, b := range out {
			if p, e := wire.GetPacket(b); e != api.OK || (p.Sig == api.Sig{}) != (i >= room) {
				t.Errorf("with room for %d the packet %d has the signature %x", room, i, p.Sig)
			}
		}
		if len(out) != 4 || len(r.Homes[0].Inbox.Items) != 1 || len(r.Queues[1].Items) != 2 {
			t.Errorf("with room for %d there are sent %d", room, len(out))
		}
	}
}

// The chapter's examples.
func TestExamples(t *testing.T) {
	for _, a := range askers(t) {
		r := a.relay(0, 1)
		r, y := a.called(r, 0, api.Call{Kind: api.CallPost, Letter: letter(0, 1, "hello").Letter})
		if y.Why != 0 || y.From != 0 || len(y.Items) != 0 {
			t.Errorf("a letter: %v", y)
		}
		r, y = a.called(r, 1, api.Call{Kind: api.CallSync})
		if y.Why != 0 || y.From != 1 || len(y.Items) != 1 || !sameItem(y.Items[0], letter(0, 1, "hello")) {
			t.Errorf("a sync: %v", y)
		}
		b := a.calls(1, api.Call{Kind: api.CallSync, Seq: 2, Since: 1})
		r, once, e := a.handle(r, b)
		y = a.replied(r, once, 1)
		if e != api.OK || y.From != 2 || len(y.Items) != 0 {
			t.Errorf("another sync: %d %v", e, y)
		}
		if _, again, e := a.handle(r, b); e != api.OK || !sameTexts(again, once) {
			t.Errorf("it once more: %d %x", e, again)
		}
		r, out, e := a.handle(r, a.calls(0, api.Call{Kind: api.CallClaim, Seq: 2, Peer: 4}))
		y = a.replied(r, out, 0)
		x := a.trans(r, out)[1]
		if e != api.OK || y.Why != 0 || len(out) != 2 || x.Id != 1 || len(x.Items) != 1 || !sameItem(x.Items[0], ask(0, 4)) {
			t.Errorf("a claim: %d %v %v", e, y, x)
		}
		given := give(0, a.bundles(4)[0])
		r, out, e = a.handle(r, a.acks(1, 0, 1, given))
		if e != api.OK || len(out) != 0 || len(r.Queues[1].Items) != 0 {
			t.Errorf("an acknowledgement: %d %x", e, out)
		}
		r, y = a.called(r, 0, api.Call{Kind: api.CallSync})
		if len(y.Items) != 1 || !sameItem(y.Items[0], given) || y.From != 1 {
			t.Errorf("the sync behind it: %v", y)
		}
		for _, peer := range []byte{200, 3} {
			r, y = a.called(r, 0, api.Call{Kind: api.CallClaim, Peer: peer})
			a.is("a claim of nobody", api.Errno(y.Why), api.ErrNone)
		}
		r, y = a.called(r, 0, api.Call{Kind: api.CallPost, Letter: letter(1, 0, "").Letter})
		a.is("another's letter", api.Errno(y.Why), api.ErrArg)
		r, _, e = a.rotate(r, run(1))
		if e != api.OK || !r.Turning {
			t.Errorf("Rotate: %d", e)
		}
		_, _, e = a.rotate(r, run(2))
		a.is("Rotate once more", e, api.ErrBusy)
	}
}

// An inbox has a queue's items, and what goes by one's own server stands in no queue.
func TestAtHomeNothingIsHandedOver(t *testing.T) {
	a := termer(t)
	r := a.relay(1, 0)
	for _, to := range []byte{4, 5, 6, 7} {
		q, out, e := a.handle(r, a.calls(5, api.Call{Kind: api.CallPost, Seq: 1, Letter: letter(5, to, "").Letter}))
		if e != api.OK || len(out) != 1 {
			t.Fatalf("a letter to %d: %d, and %d are sent", to, e, len(out))
		}
		for n, x := range q.Queues {
			if len(x.Items) > 0 {
				t.Fatalf("a letter to %d: the queue %d is %s", to, n, brief(x))
			}
		}
		if _, ok := fedq.Rows("i0", q.Homes[0].Inbox); !ok {
			t.Fatal("the inbox can't be written")
		}
	}
}
