package client_test

import (
	"bytes"
	"fmt"
	"testing"

	"missive/account"
	"missive/api"
	"missive/suite"
	"missive/wire"
)

// P23.3

// What may be wrong with a reply, each beside each.
func TestReplyTheFirstErrorIsTold(t *testing.T) {
	errors := []api.Errno{api.ErrKind, api.ErrArg, api.ErrArg, api.ErrKind, api.ErrTrust, api.ErrOrder, api.ErrWhen, api.ErrSign, api.ErrForm, api.ErrOrder, api.ErrOrder, api.ErrOrder}
	for _, a := range askers(t) {
		right := a.object(1, 1, 100)
		still, late, foreign := right, a.object(1, 1, 100), right
		late.Until = 100
		late.Sig = both(a, func(s suite.Suite) api.Sig { return s.Sign(secret(1, 0), objectText(late)) })
		foreign.Sig[0]++
		for holds := range 1 << len(errors) {
			if a.s.Terms() == nil && holds%53 != 0 && holds&(holds-1) != 0 {
				continue
			}
			is := func(i int) bool { return holds>>i&1 == 1 }
			c := a.syncing(a.device(5, 4))
			y := api.Reply{Seq: c.Seq, From: 1, Items: []api.Item{none(5, 4)}}
			if is(11) {
				y.From = 2
			}
			if is(10) {
				y.Seq++
			}
			if is(9) {
				c.Doing = nil
			}
			p := a.replyOf(c, y)
			p.Chain = []api.Object{still}
			by := secret(1, 1)
			if is(8) {
				p.Body = p.Body[1:]
			}
			if is(7) {
				by = secret(1, 0)
			}
			if is(6) {
				p.Chain = []api.Object{late}
			}
			if is(5) {
				c.Cache.Highest[1] = 2
			}
			if is(4) {
				p.Chain = []api.Object{foreign}
			}
			if is(3) {
				p.Kind = []byte{api.PackCall, api.PackTrans, api.PackAck}[holds%3]
			}
			if is(2) {
				p.From = 2
			}
			if is(1) {
				p.To = 16 + 6
			}
			b := a.signed(by, p)
			if is(0) {
				b = bytes.Replace(b, []byte{0, 1, p.From, 0, 1, p.To, 0, 1, p.Kind}, []byte{0, 1, p.From, 0, 1, p.To, 0, 1, 5}, 1)
			}
			_, _, e := a.handle(c, b, run(1))
			a.is(fmt.Sprintf("the reply %b", holds), e, first(holds, errors))
		}
	}
}

// From whom, and to whom.
func TestWhoseReplies(t *testing.T) {
	a := termer(t)
	for device := range byte(20) {
		c := a.syncing(api.Client{Device: device, Cache: a.cache(0)})
		for n := range 256 {
			for _, to := range []bool{false, true} {
				p := a.replyOf(c, api.Reply{Seq: 1})
				want := api.OK
				switch {
				case to && n != int(16+device), !to && n != int(device/4):
					want = api.ErrArg
				case device > 15:
					want = api.ErrTrust
				}
				if to {
					p.To = byte(n)
				} else {
					p.From = byte(n)
				}
				_, _, e := a.handle(c, a.signed(secret(device/4, 0), p), run(1))
				a.is(fmt.Sprint("a reply to ", device, ", ", p.From, " to ", p.To), e, want)
			}
		}
	}
}

// Devices of numbers that aren't there have nodes and servers that aren't there, or another's.
func TestRepliesToStrangeDevices(t *testing.T) {
	a := termer(t)
	all(func(n byte) {
		c := a.syncing(api.Client{Device: n, Cache: a.cache(0)})
		_, _, e := a.handle(c, a.signed(secret(n/4%4, 0), a.replyOf(c, api.Reply{Seq: 1})), run(1))
		want := api.OK
		if n > 15 {
			want = api.ErrTrust
		}
		a.is(fmt.Sprint("a reply to ", n), e, want)
	})
}

// By which keys of the server a reply may be signed.
func TestKeysOfTheServer(t *testing.T) {
	for _, a := range askers(t) {
		most := 4
		if a.s.Terms() == nil {
			most = 1
		}
		for need := range byte(3) {
			for keys := 0; keys <= most; keys++ {
				for highest := range byte(6) {
					c := a.syncing(with(a.device(9, 4), func(c *api.Client) {
						c.Cache.Need, c.Cache.Highest = need, [4]byte{5, 6, highest, 7}
					}))
					p := a.replyOf(c, api.Reply{Seq: c.Seq})
					p.Chain = a.chain(2, keys, 0, 3)
					got, _, e := a.handle(c, a.signed(secret(2, byte(keys)), p), run(1))
					want := api.OK
					if int(highest) > keys {
						want = api.ErrOrder
					}
					a.is(fmt.Sprint(keys, " keys, with ", highest, " seen"), e, want)
					if want == api.OK && got.Cache.Highest != [4]byte{5, 6, byte(keys), 7} {
						t.Fatalf("behind %d keys there is seen %v", keys, got.Cache.Highest)
					}
					_, _, e = a.handle(c, a.signed(secret(2, byte(keys+1)), p), run(1))
					if want == api.OK {
						want = api.ErrSign
					}
					a.is("by another key", e, want)
				}
			}
		}
		c := a.syncing(with(a.device(9, 4), func(c *api.Client) { c.Cache.Need = 2 }))
		p := a.replyOf(c, api.Reply{Seq: c.Seq})
		p.Chain = a.chain(2, 1, 0)
		_, _, e := a.handle(c, a.signed(secret(2, 1), p), run(1))
		a.is("too few vouches", e, api.ErrTrust)
	}
}

// A key is taken from when on it holds; only the last one of a chain matters.
func TestWhenKeysHold(t *testing.T) {
	for _, a := range askers(t) {
		for _, c := range []struct {
			from, until, ahead uint32
			want               api.Errno
		}{
			{0, 1, 0, api.OK}, {0, 1<<32 - 1, 0, api.OK}, {5, 6, 0, api.OK}, {1<<32 - 2, 1<<32 - 1, 0, api.OK},
			{5, 6, 5, api.OK}, {5, 6, 9, api.OK}, {5, 6, 1<<32 - 1, api.OK},
			{0, 0, 0, api.ErrWhen}, {5, 5, 0, api.ErrWhen}, {5, 4, 0, api.ErrWhen}, {5, 0, 3, api.ErrWhen}, {1<<32 - 1, 1<<32 - 1, 0, api.ErrWhen},
		} {
			one, two := a.object(1, 1, c.ahead), a.object(1, 2, c.from)
			one.Until, two.Until = 0, c.until
			one.Sig = both(a, func(s suite.Suite) api.Sig { return s.Sign(secret(1, 0), objectText(one)) })
			two.Sig = both(a, func(s suite.Suite) api.Sig { return s.Sign(secret(1, 1), objectText(two)) })
			x := a.syncing(a.device(5))
			p := a.replyOf(x, api.Reply{Seq: x.Seq})
			p.Chain = []api.Object{one, two}
			_, _, e := a.handle(x, a.signed(secret(1, 2), p), run(1))
			a.is(fmt.Sprint("a key from ", c.from, " to ", c.until), e, c.want)
		}
	}
}

// A signature holds for one packet alone.
func TestRepliesAreSigned(t *testing.T) {
	for _, a := range askers(t) {
		c := a.syncing(a.device(5, 4))
		p, e := wire.GetPacket(a.replies(c, api.OK))
		a.is("the packet", e, api.OK)
		for i, change := range []func(p *api.Packet){
			func(p *api.Packet) {},
			func(p *api.Packet) { p.Body[len(p.Body)-1]++ },
			func(p *api.Packet) { p.Sig[0]++ },
			func(p *api.Packet) { p.Sig[31]++ },
			func(p *api.Packet) { p.Sig[63]++ },
			func(p *api.Packet) { p.Sig = api.Sig{} },
		} {
			q := p
			q.Body = bytes.Clone(p.Body)
			change(&q)
			b, _ := wire.PutPacket(q)
			_, _, e := a.handle(c, b, run(1))
			if (e == api.OK) != (i == 0) || i > 0 && e != api.ErrSign {
				t.Fatalf("the change %d of a packet: %d", i, e)
			}
		}
	}
}

// To which call.
func TestReplyNumbers(t *testing.T) {
	a := termer(t)
	for _, was := range edges() {
		for _, seq := range edges() {
			c := a.device(5)
			c.Seq = was
			c.Doing, _ = wire.PutCall(api.Call{Kind: api.CallSync, Seq: was})
			got, _, e := a.handle(c, a.signed(secret(1, 0), a.replyOf(c, api.Reply{Seq: seq})), run(1))
			if seq != was {
				a.is(fmt.Sprint("a reply to ", seq, " of ", was), e, api.ErrOrder)
				continue
			}
			a.is("a reply", e, api.OK)
			if got.Seq != was || len(got.Doing) != 0 {
				t.Fatalf("behind a reply to %d the device is %v", was, got)
			}
			_, _, e = a.handle(got, a.replies(c, api.OK), run(1))
			a.is("a reply twice", e, api.ErrOrder)
		}
	}
}

// Where nothing is being done there is nothing to reply to.
func TestReplyToNothing(t *testing.T) {
	for _, a := range askers(t) {
		c := a.device(5, 4)
		for _, y := range []api.Reply{{}, {Seq: 1}, {Why: 7}, {From: 1, Items: []api.Item{none(5, 4)}}} {
			_, _, e := a.handle(c, a.signed(secret(1, 0), a.replyOf(c, y)), run(1))
			a.is("a reply to nothing", e, api.ErrOrder)
		}
	}
}

// A reply to an upload: whatever it is, the server is known to have the keys.
func TestReplyToAnUpload(t *testing.T) {
	for _, a := range askers(t) {
		for _, ids := range [][]uint16{nil, {1, 2, 3}, {3}, {2, 1}, {9, 300, 4}} {
			l := a.bundles(5, ids...)
			for _, why := range []api.Errno{0, 1, 4, 191, 255} {
				for _, up := range []uint16{0, 2, 3, 4, 65535} {
					c := a.device(5, 4)
					c.Known, c.Up = false, up
					c.Again, c.Peers[0].Asked = []byte("again"), true
					c = a.calling(c, api.Call{Kind: api.CallUpload, Bundles: l})
					got, _, e := a.handle(c, a.replies(c, why, none(5, 4)), run(1))
					a.is("a reply", e, api.OK)
					want := up
					for _, id := range ids {
						want = max(want, id)
					}
					if !got.Known || got.Up != want || got.Synced || len(got.Doing) > 0 {
						t.Fatalf("behind the reply %d to an upload of %d above %d: known %t up to %d", why, ids, up, got.Known, got.Up)
					}
					c.Known, c.Up, c.Synced, c.Doing = true, want, false, nil
					a.left("an upload", got, c)
				}
			}
		}
	}
}

// A claim that was refused may be made again; one that wasn't is answered by an item.
func TestReplyToAClaim(t *testing.T) {
	for _, a := range askers(t) {
		for _, why := range []api.Errno{0, 1, 2, 4, 7, 255} {
			for _, of := range []byte{4, 6, 7, 200} {
				c := a.device(5, 4, 6)
				c.Peers[0].Asked, c.Peers[1].Asked = true, true
				c = a.calling(c, api.Call{Kind: api.CallClaim, Peer: of})
				got, heard, e := a.handle(c, a.replies(c, why, none(5, 4)), run(1))
				a.is("a reply", e, api.OK)
				for _, p := range got.Peers {
					if p.Asked != (why == 0 || p.Device != of) {
						t.Errorf("behind the reply %d to a claim of %d, of %d there is asked: %t", why, of, p.Device, p.Asked)
					}
				}
				if got.Synced || len(got.Doing)+len(got.Again)+len(heard) > 0 || got.Since != 0 {
					t.Errorf("behind the reply to a claim: %v", got)
				}
			}
		}
	}
}

// A letter that was posted waits no more; one that was refused is posted again, as it is.
func TestReplyToAPost(t *testing.T) {
	for _, a := range askers(t) {
		for _, why := range []api.Errno{0, 1, 4, 5, 255} {
			for waits := range 4 {
				for _, to := range []byte{4, 6, 7, 200} {
					c := a.device(5, 4, 6)
					for i := range waits {
						c = a.says(c, 4, fmt.Sprint("text ", i))
						c = a.says(c, 6, fmt.Sprint("text ", i))
					}
					c = a.calling(c, api.Call{Kind: api.CallPost, Letter: api.Letter{From: 5, To: to, Body: []byte("letter")}})
					got, _, e := a.handle(c, a.replies(c, why, none(5, 4)), run(1))
					a.is("a reply", e, api.OK)
					if (len(got.Again) > 0) != (why != 0) || why != 0 && !bytes.Equal(got.Again, c.Doing) || len(got.Doing) > 0 || got.Synced {
						t.Fatalf("behind the reply %d to a post: %v", why, got)
					}
					for i, p := range got.Peers {
						was := c.Peers[i].Out
						if why == 0 && to == p.Device && waits > 0 {
							was = was[1:]
						}
						if len(p.Out) != len(was) || len(was) > 0 && p.Out[0].N != was[0].N {
							t.Errorf("behind the reply %d to a post for %d there wait for %d %v", why, to, p.Device, p.Out)
						}
					}
				}
			}
		}
	}
}

// A sync that was refused is a sync, and brings nothing.
func TestReplyToARefusedSync(t *testing.T) {
	for _, a := range askers(t) {
		for _, why := range []api.Errno{1, 4, 255} {
			for _, from := range []uint16{0, 7, 8, 9, 65535} {
				c := a.device(5, 4)
				c.Account, c.Since, c.Synced, c.Peers[0].Asked = owned(5), 7, false, true
				c = a.syncing(c)
				got, heard, e := a.handle(c, a.signed(secret(1, 0), a.replyOf(c, api.Reply{Seq: 1, Why: byte(why), From: from, Items: []api.Item{none(5, 4)}})), run(1))
				a.is("a reply", e, api.OK)
				c.Doing, c.Synced = nil, true
				a.left("a sync that was refused", got, c)
				if len(heard) > 0 {
					t.Error(heard)
				}
			}
		}
	}
}

// From which number on items come, and up to which.
func TestReplyToASync(t *testing.T) {
	a := termer(t)
	for _, since := range edges() {
		for _, from := range edges() {
			for items := range 5 {
				c := a.device(5, 4)
				c.Since, c.Peers[0].Asked = since, true
				c = a.syncing(c)
				y := api.Reply{Seq: c.Seq, From: from}
				for range items {
					y.Items = append(y.Items, none(5, 4))
				}
				got, _, e := a.handle(c, a.signed(secret(1, 0), a.replyOf(c, y)), run(1))
				if items > 0 && (int(from) != int(since)+1 || int(since)+items > 65535) {
					a.is(fmt.Sprint(items, " items from ", from, ", since ", since), e, api.ErrOrder)
					continue
				}
				a.is(fmt.Sprint(items, " items from ", from, ", since ", since), e, api.OK)
				if int(got.Since) != int(since)+items || got.Peers[0].Asked != (items == 0) || !got.Synced {
					t.Errorf("behind %d items since %d: %v", items, since, got)
				}
			}
		}
	}
}

// What was being done and is no call is done with by any reply.
func TestReplyToNoCall(t *testing.T) {
	for _, a := range askers(t) {
		for _, doing := range []string{"doing", "\x00", "\x03\x00\x01\x07\x00\x02\x00\x01\x00\x02\x00\x00", "\x03\x00\x01\x04\x00\x02\x00\x01\x00\x02\x00\x00\x00"} {
			for _, why := range []api.Errno{api.OK, api.ErrArg} {
				c := a.says(a.device(5, 0, 4), 0, "text")
				c.Seq, c.Doing, c.Again, c.Known, c.Up = 3, []byte(doing), []byte("again"), false, 0
				c.Peers[0].Asked, c.Peers[1].Asked = true, true
				got, _, e := a.handle(c, a.replies(c, why, none(5, 4)), run(1))
				a.is("a reply", e, api.OK)
				c.Doing, c.Synced = nil, false
				a.left("a reply to no call", got, c)
			}
		}
	}
}

// The call's own number doesn't matter: it is the device's that is replied to.
func TestReplyToACallOfAnotherNumber(t *testing.T) {
	for _, a := range askers(t) {
		c := a.device(5, 4)
		c.Seq = 9
		c.Doing, _ = wire.PutCall(api.Call{Kind: api.CallUpload, Seq: 3, Bundles: a.bundles(5, 8)})
		got, _, e := a.handle(c, a.replies(c, api.OK), run(1))
		a.is("a reply", e, api.OK)
		if got.Up != 8 {
			t.Error(got.Up)
		}
	}
}

// What was refused is done again, first of all behind the next sync, and when it is posted waits no more.
func TestPostedAgain(t *testing.T) {
	for _, a := range askers(t) {
		c := a.says(a.device(5, 4), 4, "one", "two")
		c.Peers[0].Sessions = []api.Session{a.writer(4, a.device(5), 1).x}
		c, x := a.ticked(c)
		var e api.Errno
		for i := range 3 {
			c, _, e = a.handle(c, a.replies(c, api.ErrFull), run(1))
			a.is("a reply", e, api.OK)
			if len(c.Peers[0].Out) != 2 {
				t.Fatalf("there wait %d", len(c.Peers[0].Out))
			}
			c, _ = a.ticked(c)
			c, _, e = a.handle(c, a.replies(c, api.OK), run(1))
			a.is("a reply", e, api.OK)
			var y api.Call
			c, y = a.ticked(c)
			was, _ := wire.PutLetter(x.Letter)
			is, _ := wire.PutLetter(y.Letter)
			if y.Kind != api.CallPost || int(y.Seq) != 3+2*i || !bytes.Equal(was, is) || len(c.Again) != 0 {
				t.Fatalf("again there is posted %v", y)
			}
		}
		c, _, e = a.handle(c, a.replies(c, api.OK), run(1))
		a.is("a reply", e, api.OK)
		if p := c.Peers[0]; len(p.Out) != 1 || p.Out[0].N != 2 || len(c.Again) != 0 {
			t.Errorf("there wait %v", p.Out)
		}
	}
}

// Keys that were made ahead of a reply are brought at the next upload.
func TestUploadBehindUpload(t *testing.T) {
	for _, a := range askers(t) {
		c := a.device(5)
		c.Known, c.Up = false, 0
		c, _ = a.ticked(c)
		x, e := account.More(a.s, c.Account, []api.Key{run(1)})
		if a.m.Terms() != nil {
			account.More(a.m, c.Account, []api.Key{run(1)})
		}
		a.is("More", e, api.OK)
		c.Account = x
		c, _, e = a.handle(c, a.replies(c, api.OK), run(1))
		a.is("a reply", e, api.OK)
		c.Synced = true
		if _, y := a.ticked(c); y.Kind != api.CallUpload || len(y.Bundles) != 2 || y.Bundles[1].Id != 4 {
			t.Errorf("there are brought %v", y.Bundles)
		}
	}
}
