package relay_test

import (
	"bytes"
	"fmt"
	"slices"
	"testing"

	"missive/api"
)

// P22.2, of acknowledgements

// asking is a server that has handed over to the server o what is in its queue, under that number.
func (a asker) asking(r api.Relay, o byte, items int, id uint16) api.Relay {
	a.Helper()
	r = with(r, func(r *api.Relay) {
		r.Queues[o] = filled(items, id)
		r.Queues[o].Sent, r.Queues[o].Wait, r.Queues[o].Back = min(items, 4), 2, 2
	})
	return r
}

// acked takes an acknowledgement of the server o, of the number under way.
func (a asker) acked(r api.Relay, o byte, l ...api.Item) (api.Relay, [][]byte, api.Errno) {
	a.Helper()
	return a.handle(r, a.acks(o, r.Server, r.Queues[o].Id, l...))
}

// What may be wrong with an acknowledgement, each beside each.
func TestAckTheFirstErrorIsTold(t *testing.T) {
	errors := []api.Errno{api.ErrForm, api.ErrArg, api.ErrKind, api.ErrPeer, api.ErrWhen, api.ErrSign, api.ErrForm, api.ErrOrder, api.ErrCount}
	for _, a := range askers(t) {
		r := a.asking(a.relay(1, 0), 2, 6, 7)
		r.Homes[0].Inbox = filled(7, 65534)
		for holds := range 1 << len(errors) {
			if a.s.Terms() == nil && holds%16 != 0 && holds%67 != 0 {
				continue
			}
			is := func(i int) bool { return holds>>i&1 == 1 }
			x := api.Trans{Id: 7}
			if is(8) {
				x.Items = []api.Item{none(4, 8)}
			}
			if is(7) {
				x.Id = 8
			}
			p := a.transOf(2, 1, api.PackAck, x)
			p.Chain = a.chain(2, 1)
			by := secret(2, 1)
			if is(6) {
				p.Body = p.Body[1:]
			}
			if is(5) {
				by = secret(2, 0)
			}
			if is(4) {
				p.Chain[0].Until = 0
				p.Chain[0].Sig = a.sig(secret(2, 0), objectText(p.Chain[0]))
			}
			if is(3) {
				p.From = 1
			}
			if is(2) {
				p.Kind = api.PackReply
			}
			if is(1) {
				p.To = 2
			}
			b := a.signed(by, p)
			if is(0) {
				b = append(b, 0)
			}
			q, out, e := a.handle(r, b)
			a.is(fmt.Sprintf("the acknowledgement %b", holds), e, first(holds, errors))
			if e != api.OK && (len(out) != 0 || len(q.Queues[2].Items) != 6) {
				t.Fatalf("beside the error %d there is sent %x, and wait %s", e, out, brief(q.Queues[2]))
			}
		}
	}
}

// Of an acknowledgement it counts which number is under way, at that server.
func TestAckNumbers(t *testing.T) {
	a := termer(t)
	l := []uint16{0, 1, 2, 255, 256, 257, 32768, 65534, 65535}
	for _, items := range []int{0, 1, 4, 5, 8} {
		for _, under := range l {
			r := a.asking(a.asking(a.relay(2, 0), 0, items, under), 3, 3, 9)
			for _, id := range l {
				q, out, e := a.handle(r, a.acks(0, 2, id))
				if id != under || items == 0 {
					a.is(fmt.Sprintf("an acknowledgement of %d, where %d is under way", id, under), e, api.ErrOrder)
					continue
				}
				left := items - min(items, 4)
				sends := 0
				if left > 0 && under < 65535 {
					sends = 1
				}
				if x := q.Queues[0]; e != api.OK || len(x.Items) != left || len(out) != sends || (x.Sent > 0) != (sends > 0) {
					t.Fatalf("an acknowledgement of %d: %d, %s, and %d are sent", id, e, brief(x), len(out))
				}
				if sends > 0 && a.trans(q, out)[0].Id != id+1 {
					t.Fatalf("behind %d there is sent %v", id, a.trans(q, out))
				}
				if !sameQueue(q.Queues[3], r.Queues[3]) {
					t.Fatalf("another queue is %s", brief(q.Queues[3]))
				}
				_, _, e = a.handle(q, a.acks(0, 2, id))
				a.is("it again", e, api.ErrOrder)
			}
		}
	}
}

// Whose answers are taken, and for whom.
func TestAnswersOfEachDevice(t *testing.T) {
	a := termer(t)
	r := a.asking(a.relay(1, 0), 2, 1, 5)
	of := a.bundles(8, 1)[1]
	for n := range 256 {
		other := of
		other.Device = byte(n)
		for _, x := range []api.Item{give(byte(n), of), none(byte(n), 8), give(5, other), none(5, byte(n))} {
			q, out, e := a.acked(r, 2, x)
			a.is("an answer", e, api.OK)
			right := n/4 == 2
			if x.Asker != 5 || n == 5 && x.Peer != 5 && x.Bundle.Device != 5 {
				right = n/4 == 1 && n != 7
			}
			taken := 0
			if right {
				taken = 1
			}
			if len(out) != 0 || waiting(q) != taken || right && !sameItem(q.Homes[x.Asker%4].Inbox.Items[0], x) || right && q.Homes[x.Asker%4].Inbox.Id != 1 {
				t.Fatalf("an answer of the kind %d for %d, of %d or %d: %d wait", x.Kind, x.Asker, x.Peer, x.Bundle.Device, waiting(q))
			}
		}
	}
}

// An answer for which there is no room ends all: the transaction is under way still.
func TestAnswersWithoutRoom(t *testing.T) {
	for _, a := range askers(t) {
		for _, c := range []struct {
			items int
			id    uint16
			want  api.Errno
		}{
			{7, 7, api.OK}, {0, 65533, api.OK}, {8, 8, api.ErrFull}, {8, 65535, api.ErrFull}, {0, 65534, api.ErrCount}, {7, 65535, api.ErrCount},
		} {
			r := a.asking(a.relay(0, 1), 3, 5, 5)
			r.Homes[1].Inbox = filled(c.items, c.id)
			r.Turning, r.Turn, r.TurnSecret = true, a.object(0, 1), secret(0, 1)
			good := vouchedFor(a.vouched(r.Turn, 3))
			for _, l := range [][]api.Item{{none(1, 12)}, {give(1, a.bundles(12)[0])}, {none(0, 12), good, none(1, 13)}, {none(1, 12), none(2, 12)}} {
				q, out, e := a.acked(r, 3, l...)
				a.is(fmt.Sprintf("an answer, behind %d up to %d", c.items, c.id), e, c.want)
				if d := differs(q, r); c.want != api.OK && (d != "" || len(out) != 0) {
					t.Fatalf("beside the error %d there is changed %s", e, d)
				}
				if c.want == api.OK && (len(q.Homes[1].Inbox.Items) != c.items+1 || len(q.Queues[3].Items) != 1 || len(out) != 1) {
					t.Fatalf("behind an answer: %s, %s", brief(q.Homes[1].Inbox), brief(q.Queues[3]))
				}
			}
			// Others' answers are passed over, wherever there is no room.
			q, _, e := a.acked(r, 3, none(1, 8), none(4, 12), none(3, 12))
			if e != api.OK || len(q.Homes[1].Inbox.Items) != c.items {
				t.Fatalf("others' answers: %d", e)
			}
		}
	}
}

// The answers are taken in order, up to four, and the key that they came by is seen.
func TestAnswersInOrder(t *testing.T) {
	for _, a := range askers(t) {
		r := a.asking(a.relay(0, 1), 1, 4, 5)
		r.Queues[2] = filled(1, 0)
		of := a.bundles(5, 1, 2)
		l := []api.Item{give(2, of[1]), none(2, 4), give(2, of[2]), give(2, of[0])}
		p := a.transOf(1, 0, api.PackAck, api.Trans{Id: 5, Items: l})
		p.Chain = a.chain(1, 1, 3)
		q, out, e := a.handle(r, a.signed(secret(1, 1), p))
		if e != api.OK || !slices.EqualFunc(q.Homes[2].Inbox.Items, l, sameItem) || q.Homes[2].Inbox.Id != 4 || q.Cache.Highest[1] != 1 || len(q.Queues[1].Items) != 0 {
			t.Fatalf("four answers: %d %s", e, brief(q.Homes[2].Inbox))
		}
		if m := a.trans(q, out); len(out) != 1 || m[2].Id != 1 {
			t.Fatalf("behind them there are sent %v", m)
		}
	}
}

// turning is the server, a key of which is turning.
func (a asker) turning(r api.Relay, vouches ...byte) api.Relay {
	return with(r, func(r *api.Relay) {
		n := byte(len(r.Chain))
		r.Secret = secret(r.Server, n)
		r.Turning, r.Turn, r.TurnSecret = true, a.object(r.Server, n+1, vouches...), secret(r.Server, n+1)
	})
}

// Which vouches are taken.
func TestVouchesThatCome(t *testing.T) {
	for _, a := range askers(t) {
		r := a.turning(a.asking(a.relay(1, 2), 2, 1, 5))
		for i, change := range []func(r *api.Relay, x *api.Object){
			func(r *api.Relay, x *api.Object) {},
			// The object's own signature isn't asked for.
			func(r *api.Relay, x *api.Object) { x.Sig[5]++ },
			func(r *api.Relay, x *api.Object) { r.Turn.Sig = api.Sig{} },
			func(r *api.Relay, x *api.Object) { r.Turn = a.vouched(r.Turn, 0) },
			func(r *api.Relay, x *api.Object) { r.Secret = run(9) },
			func(r *api.Relay, x *api.Object) { r.Turning, r.Turn, r.TurnSecret = false, api.Object{}, api.Key{} },
			func(r *api.Relay, x *api.Object) { r.Turning = false },
			func(r *api.Relay, x *api.Object) { *x = a.revouched(*x, func(x *api.Object) { x.Server = 2 }) },
			func(r *api.Relay, x *api.Object) { *x = a.revouched(*x, func(x *api.Object) { x.N++ }) },
			func(r *api.Relay, x *api.Object) { *x = a.revouched(*x, func(x *api.Object) { x.Key[31]++ }) },
			func(r *api.Relay, x *api.Object) { *x = a.revouched(*x, func(x *api.Object) { x.From++ }) },
			func(r *api.Relay, x *api.Object) { *x = a.revouched(*x, func(x *api.Object) { x.Until-- }) },
			func(r *api.Relay, x *api.Object) { x.Vouches = nil },
			func(r *api.Relay, x *api.Object) { *x = a.vouched(*x, 2) },
			func(r *api.Relay, x *api.Object) { *x = a.vouched(*x, 3) },
			func(r *api.Relay, x *api.Object) { x.Vouches = nil; *x = a.vouched(*x, 3) },
			func(r *api.Relay, x *api.Object) { x.Vouches = nil; *x = a.vouched(*x, 1) },
			func(r *api.Relay, x *api.Object) { x.Vouches[0].Notary = 3 },
			func(r *api.Relay, x *api.Object) { x.Vouches[0].Notary = 6 },
			func(r *api.Relay, x *api.Object) { x.Vouches[0].Sig[0]++ },
			func(r *api.Relay, x *api.Object) { x.Vouches[0].Sig[63]++ },
			func(r *api.Relay, x *api.Object) { x.Vouches[0].Sig = a.sig(secret(3, 0), vouchText(*x, 2)) },
			func(r *api.Relay, x *api.Object) { x.Vouches[0].Sig = a.sig(secret(2, 0), vouchText(*x, 3)) },
			func(r *api.Relay, x *api.Object) { x.Vouches[0].Sig = a.sig(secret(2, 0), objectText(*x)) },
			func(r *api.Relay, x *api.Object) { r.Turn = a.vouched(r.Turn, 2) },
			func(r *api.Relay, x *api.Object) { r.Turn = a.vouched(r.Turn, 2); x.Vouches[0].Notary = 3 },
			func(r *api.Relay, x *api.Object) { r.Turn = a.vouched(r.Turn, 2); x.Vouches[0].Sig[0]++ },
			func(r *api.Relay, x *api.Object) { r.Turn = a.vouched(r.Turn, 2); x.Vouches[0] = api.Vouch{Notary: 3} },
			func(r *api.Relay, x *api.Object) { r.Turn = a.vouched(r.Turn, 0, 2, 3) },
			func(r *api.Relay, x *api.Object) {
				r.Turn.Vouches = []api.Vouch{{Notary: 3}, {Notary: 2, Sig: api.Sig{1}}}
			},
		} {
			q, x := stood(r), a.vouched(r.Turn, 2)
			change(&q, &x)
			got, out, e := a.acked(q, 2, vouchedFor(x))
			if e != api.OK || len(out) != 0 {
				t.Fatalf("the change %d of a vouch: %d", i, e)
			}
			was, want := q, len(q.Turn.Vouches)
			if want++; i > 4 {
				want--
			}
			switch {
			case i == 3: // There are two now.
				if got.Turning || len(got.Chain) != 1 || !slices.Equal(got.Chain[0].Vouches, a.vouched(r.Turn, 0, 2).Vouches) || got.Secret != secret(1, 1) {
					t.Fatalf("the second vouch: %v %v", got.Turn, got.Chain)
				}
			case got.Turning != q.Turning || len(got.Turn.Vouches) != want || len(got.Chain) != 0:
				t.Fatalf("the change %d of a vouch: %v", i, got.Turn.Vouches)
			case want > 0 && i < 5 && got.Turn.Vouches[want-1] != x.Vouches[0]:
				t.Fatalf("the change %d of a vouch: %v", i, got.Turn.Vouches)
			case i > 4:
				was.Queues[2] = got.Queues[2]
				if d := differs(got, was); d != "" {
					t.Fatalf("the change %d of a vouch: there is changed %s", i, d)
				}
			}
		}
	}
}

// revouched is the object, changed, with the same servers' vouches for what it is now.
func (a asker) revouched(x api.Object, change func(x *api.Object)) api.Object {
	by := x.Vouches
	x.Vouches = nil
	change(&x)
	for _, v := range by {
		x = a.vouched(x, v.Notary)
	}
	return x
}

// The vouch is the one of the server from which it came, by its first key: whatever its key is now.
func TestVouchesAreByFirstKeys(t *testing.T) {
	for _, a := range askers(t) {
		r := a.turning(a.asking(a.relay(1, 1), 2, 1, 5))
		for n := range byte(3) {
			x := r.Turn
			x.Vouches = []api.Vouch{{Notary: 2, Sig: a.sig(secret(2, n), vouchText(x, 2))}}
			p := a.transOf(2, 1, api.PackAck, api.Trans{Id: 5, Items: []api.Item{vouchedFor(x)}})
			p.Chain = a.chain(2, 1, 0)
			q, _, e := a.handle(r, a.signed(secret(2, 1), p))
			if e != api.OK || q.Turning != (n != 0) {
				t.Fatalf("a vouch by the key %d: %d, turning %t", n, e, q.Turning)
			}
		}
	}
}

// Vouches come one by one, and behind the last one the key is that of now: it is shown, and signed by.
func TestVouchesOfEachNeed(t *testing.T) {
	for _, a := range askers(t) {
		for need := byte(0); need <= 4; need++ {
			for keys := range 4 {
				if a.s.Terms() == nil && (need%2 == 1 || keys%3 != 2) {
					continue
				}
				r := a.relay(1, need)
				r.Chain = a.chain(1, keys, 0, 2, 3)
				r = a.turning(r)
				bare, turn, left := r.Turn, r.Turn, int(need)
				for _, o := range []byte{2, 0, 3} {
					r = a.asking(r, o, 5, uint16(o)+5)
					x := a.vouched(bare, o)
					var out [][]byte
					var e api.Errno
					// Of two vouches one counts; one that comes behind the last one doesn't matter.
					r, out, e = a.acked(r, o, vouchedFor(x), vouchedFor(x))
					if turn, left = a.vouched(turn, o), left-1; left == 0 || left == -1 && o == 2 {
						if last := r.Chain[len(r.Chain)-1]; !sameObject(last, turn) || r.Secret != secret(1, byte(keys+1)) {
							t.Fatalf("there is put behind the chain %v, want %v", last, turn)
						}
					}
					turned := left <= 0
					if e != api.OK || r.Turning == turned || len(r.Chain) != keys+map[bool]int{true: 1}[turned] {
						t.Fatalf("the vouch of %d, of %d: %d, turning %t", o, need, e, r.Turning)
					}
					if turned && (!sameObject(r.Turn, api.Object{}) || r.TurnSecret != api.Key{}) {
						t.Fatalf("nothing is turning, but %v", r.Turn)
					}
					// What is sent is signed by the key of now, which sent asks.
					if m := a.trans(r, out); len(out) != 1 || m[o].Id != uint16(o)+6 {
						t.Fatalf("there are sent %v", m)
					}
					if left > 0 && len(r.Turn.Vouches) != int(need)-left {
						t.Fatalf("there are %d vouches", len(r.Turn.Vouches))
					}
				}
			}
		}
	}
}

// What isn't for an acknowledgement is passed over; what is behind it is done.
func TestAckedOthers(t *testing.T) {
	for _, a := range askers(t) {
		r := a.turning(a.asking(a.relay(1, 2), 2, 1, 5))
		r.Homes[0].Shelf = a.shelf(4, 1)
		of := a.bundles(4, 1)[1]
		for _, x := range []api.Item{letter(8, 4, ""), ask(8, 4), ask(4, 8), vouch(a.object(2, 1)), vouch(a.vouched(r.Turn, 2)), give(4, of), give(8, of), none(4, 4), none(8, 4), vouchedFor(a.object(2, 1))} {
			q, out, e := a.acked(r, 2, x)
			if e != api.OK || len(out) != 0 {
				t.Fatalf("an item of the kind %d: %d", x.Kind, e)
			}
			was := q
			was.Queues[2] = r.Queues[2]
			if d := differs(was, r); d != "" {
				t.Fatalf("an item of the kind %d changed %s", x.Kind, d)
			}
			q, _, e = a.acked(r, 2, x, none(5, 8), x, vouchedFor(a.vouched(r.Turn, 2)))
			if e != api.OK || len(q.Homes[1].Inbox.Items) != 1 || len(q.Turn.Vouches) != 1 {
				t.Fatalf("behind an item of the kind %d: %d", x.Kind, e)
			}
		}
	}
}

// The queue, as the acknowledgement leaves it, is told by its rows and by what is sent next.
func TestAckThenNext(t *testing.T) {
	for _, a := range askers(t) {
		r := a.relay(0, 0)
		for i := range 6 {
			r, _ = a.called(r, 1, api.Call{Kind: api.CallPost, Letter: letter(1, 8, fmt.Sprint(i)).Letter})
		}
		// The first call's letter went at once, alone; the others wait.
		if q := r.Queues[2]; q.Sent != 1 || q.Id != 1 || len(q.Items) != 6 {
			t.Fatalf("six letters: %s", brief(q))
		}
		for _, c := range []struct{ id, items, left int }{{1, 4, 5}, {2, 1, 1}, {3, 0, 0}} {
			var out [][]byte
			var e api.Errno
			r, out, e = a.acked(r, 2)
			x := a.trans(r, out)[2]
			if e != api.OK || len(x.Items) != c.items || len(r.Queues[2].Items) != c.left || c.items > 0 && int(x.Id) != c.id+1 {
				t.Fatalf("behind the acknowledgement of %d: %d %v, %s", c.id, e, x, brief(r.Queues[2]))
			}
			if c.items > 0 && !bytes.Equal(x.Items[0].Letter.Body, []byte{'0' + byte(6-c.left)}) {
				t.Fatalf("behind the acknowledgement of %d there is %q", c.id, x.Items[0].Letter.Body)
			}
		}
	}
}
