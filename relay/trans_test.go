package relay_test

import (
	"bytes"
	"fmt"
	"slices"
	"testing"

	"missive/api"
	"missive/suite"
	"missive/wire"
)

// P22.2, of transactions

// What may be wrong with a transaction, each beside each.
func TestTransTheFirstErrorIsTold(t *testing.T) {
	errors := []api.Errno{api.ErrKind, api.ErrArg, api.ErrKind, api.ErrPeer, api.ErrTrust, api.ErrSign, api.ErrForm, api.ErrOrder, api.ErrFull}
	for _, a := range askers(t) {
		r := a.relay(1, 1)
		r.Homes[0].Inbox = filled(8, 8)
		r.Last[2] = 6
		for holds := range 1 << len(errors) {
			if a.s.Terms() == nil && holds%16 != 0 && holds%67 != 0 {
				continue
			}
			is := func(i int) bool { return holds>>i&1 == 1 }
			x := api.Trans{Id: 7}
			if is(8) {
				x.Items = []api.Item{letter(8, 4, "")}
			}
			if is(7) {
				x.Id = 8
			}
			p := a.transOf(2, 1, api.PackTrans, x)
			p.Chain = a.chain(2, 2, 3)
			by := secret(2, 2)
			if is(6) {
				p.Body = p.Body[1:]
			}
			if is(5) {
				by = secret(2, 1)
			}
			if is(4) {
				p.Chain[1] = a.object(2, 2)
			}
			if is(3) {
				p.From = 4
			}
			if is(2) {
				p.Kind = api.PackReply
			}
			if is(1) {
				p.To = 0
			}
			b := a.signed(by, p)
			if is(0) {
				b = bytes.Replace(b, []byte{0, 1, p.From, 0, 1, p.To, 0, 1, p.Kind}, []byte{0, 1, p.From, 0, 1, p.To, 0, 1, 0}, 1)
			}
			q, out, e := a.handle(r, b)
			a.is(fmt.Sprintf("the transaction %b", holds), e, first(holds, errors))
			if e != api.OK && len(out) != 0 {
				t.Fatalf("beside the error %d there is sent %x", e, out)
			}
			if (q.Cache.Highest[2] == 2) != (e == api.OK) {
				t.Fatalf("beside the error %d the key %d is seen", e, q.Cache.Highest[2])
			}
		}
	}
}

func TestWhoMayHandOver(t *testing.T) {
	a := termer(t)
	for _, server := range []byte{0, 1, 2, 3, 4, 200} {
		r := a.relay(server%4, 0)
		r.Server = server
		r.Cache.First[3] = api.Key{}
		for from := range 256 {
			for _, kind := range []byte{api.PackTrans, api.PackAck} {
				p := a.transOf(byte(from), server, kind, api.Trans{Id: 1})
				_, _, e := a.handle(r, a.signed(secret(byte(from), 0), p))
				want := api.ErrPeer
				if from < 3 && from != int(server) {
					if want = api.OK; kind == api.PackAck {
						want = api.ErrOrder
					}
				}
				a.is(fmt.Sprintf("the kind %d of the node %d to the server %d", kind, from, server), e, want)
			}
		}
	}
}

// What Check tells of the chain, at the clock of the server; and what is seen behind.
func TestChainsOfOthers(t *testing.T) {
	for _, a := range askers(t) {
		for need := range byte(3) {
			r := a.relay(1, need)
			r.Queues[0] = filled(1, 4)
			r.Queues[0].Sent, r.Queues[0].Wait = 1, 4
			for keys := range byte(5) {
				for _, kind := range []byte{api.PackTrans, api.PackAck} {
					if a.s.Terms() == nil && (need != 1 || keys%3 != 0 || kind == api.PackTrans) {
						continue
					}
					for _, vouches := range [][]byte{nil, {2}, {3, 2}, {0, 0}} {
						id := uint16(1)
						if kind == api.PackAck {
							id = 4
						}
						p := a.transOf(0, 1, kind, api.Trans{Id: id})
						p.Chain = a.chain(0, int(keys), vouches...)
						counted := len(vouches)
						if counted > 0 && vouches[0] == 0 {
							counted = 0
						}
						want := api.OK
						if keys > 0 && counted < int(need) {
							want = api.ErrTrust
						}
						q, _, e := a.handle(r, a.signed(secret(0, keys), p))
						a.is(fmt.Sprintf("%d keys of %d vouches", keys, counted), e, want)
						if e == api.OK && q.Cache.Highest != [4]byte{keys, 0, 0, 0} {
							t.Fatalf("with %d keys there are seen %d", keys, q.Cache.Highest)
						}
						if keys > 0 {
							_, _, e = a.handle(r, a.signed(secret(0, keys-1), p))
							if want == api.OK {
								want = api.ErrSign
							}
							a.is("signed by the key ahead", e, want)
						}
						q = with(r, func(r *api.Relay) { r.Cache.Highest[0] = 3 })
						if want != api.ErrTrust {
							_, _, e = a.handle(q, a.signed(secret(0, keys), p))
							if (e == api.ErrOrder) != (keys < 3) || keys >= 3 && e != api.OK {
								t.Fatalf("%d keys, of which 3 were seen: %d", keys, e)
							}
						}
					}
				}
			}
		}
	}
}

func TestKeysHaveTheirTime(t *testing.T) {
	for _, a := range askers(t) {
		x := a.object(2, 1)
		x.From, x.Until = 10, 20
		x.Sig = a.sig(secret(2, 0), objectText(x))
		p := a.transOf(2, 0, api.PackTrans, api.Trans{Id: 1})
		p.Chain = []api.Object{x}
		for clock, want := range map[uint32]api.Errno{0: api.ErrWhen, 9: api.ErrWhen, 10: api.OK, 19: api.OK, 20: api.ErrWhen, 1<<32 - 1: api.ErrWhen} {
			r := a.relay(0, 0)
			r.Clock = clock
			_, _, e := a.handle(r, a.signed(secret(2, 1), p))
			a.is(fmt.Sprint("at the clock ", clock), e, want)
		}
	}
}

// sig is what the secret signs the text with.
func (a asker) sig(by api.Key, text []byte) api.Sig {
	return both(a, func(s suite.Suite) api.Sig { return s.Sign(by, text) })
}

// Each number behind each: a new one is done, the last one acknowledged once more.
func TestTransNumbers(t *testing.T) {
	a := termer(t)
	l := []uint16{0, 1, 2, 3, 255, 256, 257, 32767, 32768, 65533, 65534, 65535}
	r := a.relay(3, 0)
	r.Homes[0].Shelf = a.shelf(12, 1, 2, 3)
	for _, last := range l {
		q := with(r, func(r *api.Relay) { r.Last = [4]uint16{last, 77, 77, 77} })
		if last > 0 {
			q.Acks[0] = []byte("as it was")
		}
		for _, id := range l {
			got, out, e := a.handle(q, a.hands(0, 3, id, ask(1, 12), letter(2, 13, "hi")))
			switch {
			case int(id) == int(last)+1:
				x := a.acknowledged(got, out, 0)
				if e != api.OK || x.Id != id || len(x.Items) != 1 || got.Last != [4]uint16{id, 77, 77, 77} || len(got.Homes[0].Shelf.Left) != 2 || len(got.Homes[1].Inbox.Items) != 1 {
					t.Fatalf("the number %d behind %d: %d %v", id, last, e, x)
				}
			case id == last && id != 0:
				p := a.sent(got, out)
				if e != api.OK || len(p) != 1 || p[0].Kind != api.PackAck || p[0].To != 0 || string(p[0].Body) != "as it was" {
					t.Fatalf("the number %d again: %d %v", id, e, p)
				}
				if d := differs(got, q); d != "" {
					t.Fatalf("the number %d again changed %s", id, d)
				}
			default:
				a.is(fmt.Sprintf("the number %d behind %d", id, last), e, api.ErrOrder)
			}
		}
	}
}

// What comes again is acknowledged as it was, by the key of then; what is to be sent is sent, and the key that it came by is seen.
func TestTransAgain(t *testing.T) {
	for _, a := range askers(t) {
		r := a.relay(0, 0)
		r.Homes[1].Shelf = a.shelf(1, 1, 2)
		p := a.transOf(3, 0, api.PackTrans, api.Trans{Id: 1, Items: []api.Item{letter(12, 1, "hi"), ask(13, 1), ask(14, 2)}})
		r, out, e := a.handle(r, a.signed(secret(3, 0), p))
		a.is("a transaction", e, api.OK)
		once := a.acknowledged(r, out, 3)
		want := []api.Item{give(13, a.bundles(1, 1, 2)[1]), none(14, 2)}
		if len(out) != 1 || once.Id != 1 || !slices.EqualFunc(once.Items, want, sameItem) {
			t.Fatalf("a transaction is acknowledged with %v", once)
		}
		r, _, e = a.rotate(r, run(3))
		a.is("Rotate", e, api.OK)
		r.Queues[3] = filled(2, 9)
		p.Chain = a.chain(3, 1)
		got, out, e := a.handle(r, a.signed(secret(3, 1), p))
		a.is("it again", e, api.OK)
		again := a.acknowledged(got, out, 3)
		if again.Id != 1 || !slices.EqualFunc(again.Items, want, sameItem) || len(out) != 2 || got.Cache.Highest[3] != 1 || a.trans(got, out)[3].Id != 10 {
			t.Fatalf("it again is acknowledged with %v", again)
		}
		got.Queues[3], got.Cache.Highest[3] = r.Queues[3], 0
		if d := differs(got, r); d != "" {
			t.Fatalf("a transaction again changed %s", d)
		}
		// Another one of that number isn't looked at.
		got, out, e = a.handle(got, a.hands(3, 0, 1, letter(12, 1, "other"), ask(13, 1)))
		a.is("another one of that number", e, api.OK)
		if x := a.acknowledged(got, out, 3); len(got.Homes[1].Inbox.Items) != 1 || !slices.EqualFunc(x.Items, want, sameItem) {
			t.Fatalf("another one of that number: %v", x)
		}
	}
}

// Each server has numbers of its own.
func TestTransOfEachServer(t *testing.T) {
	for _, a := range askers(t) {
		r := a.relay(1, 0)
		for id := range uint16(3) {
			for _, o := range []byte{3, 0, 2} {
				var out [][]byte
				var e api.Errno
				r, out, e = a.handle(r, a.hands(o, 1, id+1, ask(4*o, 4)))
				a.is("a transaction", e, api.OK)
				if x := a.acknowledged(r, out, o); x.Id != id+1 || len(x.Items) != 1 || !sameItem(x.Items[0], none(4*o, 4)) {
					t.Fatalf("the transaction %d of %d: %v", id+1, o, x)
				}
			}
		}
		if r.Last != [4]uint16{3, 0, 3, 3} || len(r.Acks[1]) != 0 {
			t.Fatalf("behind them there are %v", r.Last)
		}
	}
}

// handed does a transaction of the server o with these items, and tells the server then and what it is answered with.
func (a asker) handed(r api.Relay, o byte, l ...api.Item) (api.Relay, []api.Item, api.Errno) {
	a.Helper()
	q, out, e := a.handle(r, a.hands(o, r.Server, r.Last[o]+1, l...))
	if e != api.OK {
		return q, nil, e
	}
	x := a.acknowledged(q, out, o)
	if x.Id != q.Last[o] || !bytes.Equal(q.Acks[o], a.transOf(r.Server, o, api.PackAck, x).Body) {
		a.Fatalf("it is acknowledged with %v, kept is %x", x, q.Acks[o])
	}
	return q, x.Items, e
}

// Whose letters are taken, and to whom.
func TestHandedLetters(t *testing.T) {
	a := termer(t)
	r := a.relay(1, 0)
	for n := range 256 {
		x := letter(byte(n), 5, "by")
		q, l, e := a.handed(r, 2, x)
		taken := 0
		if n/4 == 2 {
			taken = 1
		}
		if inbox := q.Homes[1].Inbox; e != api.OK || len(l) != 0 || waiting(q) != taken || len(inbox.Items) != taken || int(inbox.Id) != taken || taken == 1 && !sameItem(inbox.Items[0], x) {
			t.Fatalf("a letter of %d: %d %v, %s", n, e, l, brief(inbox))
		}
		x = letter(9, byte(n), "to")
		q, l, e = a.handed(r, 2, x)
		if taken = 0; n/4 == 1 && n != 7 {
			taken = 1
		}
		if e != api.OK || len(l) != 0 || waiting(q) != taken || taken == 1 && !sameItem(q.Homes[n%4].Inbox.Items[0], x) {
			t.Fatalf("a letter to %d: %d %v, %d wait", n, e, l, waiting(q))
		}
	}
}

// A letter for which there is no room ends all; whatever was ahead of it, or is behind it.
func TestHandedLettersWithoutRoom(t *testing.T) {
	for _, a := range askers(t) {
		for _, c := range []struct {
			items, size int
			id          uint16
			want        api.Errno
		}{
			{7, 900, 7, api.OK}, {0, 901, 0, api.ErrLong}, {8, 300, 8, api.ErrFull}, {8, 901, 8, api.ErrLong},
			{8, 300, 65534, api.ErrFull}, {7, 300, 65533, api.OK}, {7, 300, 65534, api.ErrCount}, {0, 300, 65535, api.ErrCount}, {0, 3700, 65535, api.ErrLong},
		} {
			r := a.relay(0, 0)
			r.Homes[1].Inbox, r.Homes[2].Shelf = filled(c.items, c.id), a.shelf(2, 1, 2)
			x := long(5, 1, c.size)
			for _, l := range [][]api.Item{{x}, {ask(4, 2), x}, {x, ask(4, 2)}, {letter(4, 2, ""), ask(4, 2), x}, {vouch(a.object(1, 1)), x}, {letter(8, 1, ""), x}} {
				q, answers, e := a.handed(r, 1, l...)
				a.is(fmt.Sprintf("a letter of %d behind %d up to %d", c.size, c.items, c.id), e, c.want)
				if c.want == api.OK && (len(q.Homes[1].Inbox.Items) != c.items+1 || q.Last[1] != 1 || len(answers) > 1) {
					t.Fatalf("behind a letter: %s", brief(q.Homes[1].Inbox))
				}
				if d := differs(q, r); c.want != api.OK && d != "" {
					t.Fatalf("beside the error %d there is changed %s", e, d)
				}
			}
			// Nobody's letter may be as long as it likes.
			q, _, e := a.handed(r, 1, long(5, 3, c.size), long(8, 1, 300))
			if e != api.OK || len(q.Homes[1].Inbox.Items) != c.items {
				t.Fatalf("a letter to nobody: %d", e)
			}
		}
	}
}

// Two letters, of which the second one has no room: neither is taken.
func TestHandedAllOrNothing(t *testing.T) {
	for _, a := range askers(t) {
		for waits := 4; waits <= 8; waits++ {
			r := a.relay(2, 0)
			r.Homes[0].Inbox = filled(waits, 40)
			l := []api.Item{letter(0, 8, "0"), letter(1, 8, "1"), letter(2, 8, "2"), letter(3, 8, "3")}
			q, _, e := a.handed(r, 0, l...)
			if waits == 4 {
				if e != api.OK || !slices.EqualFunc(q.Homes[0].Inbox.Items[4:], l, sameItem) || q.Homes[0].Inbox.Id != 44 {
					t.Fatalf("four letters: %d %s", e, brief(q.Homes[0].Inbox))
				}
				continue
			}
			a.is(fmt.Sprint("four letters behind ", waits), e, api.ErrFull)
			// When the device has had one they come again, with the same number.
			q, _ = a.called(q, 8, api.Call{Kind: api.CallSync, Since: uint16(40 - 4)})
			q, _, e = a.handed(q, 0, l...)
			if e != api.OK || len(q.Homes[0].Inbox.Items) != 8 || q.Last[0] != 1 {
				t.Fatalf("four letters, again: %d %s", e, brief(q.Homes[0].Inbox))
			}
		}
	}
}

// Who may ask, and for whose keys.
func TestHandedAsks(t *testing.T) {
	a := termer(t)
	r := a.relay(2, 0)
	for place := range byte(4) {
		if place != 1 {
			r.Homes[place].Shelf = a.shelf(8+place, 5, 6)
		}
	}
	for n := range 256 {
		q, l, e := a.handed(r, 0, ask(byte(n), 8))
		if n < 4 {
			if e != api.OK || len(l) != 1 || !sameItem(l[0], give(byte(n), r.Homes[0].Shelf.Left[0])) || len(q.Homes[0].Shelf.Left) != 1 {
				t.Fatalf("%d asks: %d %v", n, e, l)
			}
		} else if e != api.OK || len(l) != 0 || len(q.Homes[0].Shelf.Left) != 2 {
			t.Fatalf("%d asks: %d %v", n, e, l)
		}
		q, l, e = a.handed(r, 0, ask(3, byte(n)))
		a.is("an ask", e, api.OK)
		switch {
		case n/4 != 2:
			if len(l) != 0 {
				t.Fatalf("%d is asked for: %v", n, l)
			}
		case n == 9 || n == 11: // The one has no keys, the other one isn't there.
			if len(l) != 1 || !sameItem(l[0], none(3, byte(n))) {
				t.Fatalf("%d is asked for: %v", n, l)
			}
			if n == 11 && len(q.Homes[3].Shelf.Left) != 2 {
				t.Fatal("of a device that isn't there a key is claimed")
			}
		default:
			if len(l) != 1 || !sameItem(l[0], give(3, r.Homes[n%4].Shelf.Left[0])) {
				t.Fatalf("%d is asked for: %v", n, l)
			}
		}
	}
}

// Each key is handed out once, in order; then the fallback.
func TestHandedAsksOfAllKeys(t *testing.T) {
	for _, a := range askers(t) {
		r := a.relay(0, 0)
		r.Homes[0].Shelf = a.shelf(0, 3, 4)
		keys := a.bundles(0, 3, 4)
		r, l, e := a.handed(r, 1, ask(5, 0), ask(6, 1), ask(5, 0), ask(6, 0))
		a.is("asks", e, api.OK)
		if want := []api.Item{give(5, keys[1]), none(6, 1), give(5, keys[2]), give(6, keys[0])}; !slices.EqualFunc(l, want, sameItem) {
			t.Fatalf("asks are answered with %v", l)
		}
		_, l, e = a.handed(r, 3, ask(12, 0))
		if e != api.OK || len(l) != 1 || !sameItem(l[0], give(12, keys[0])) {
			t.Fatalf("an ask is answered with %d %v", e, l)
		}
	}
}

// Which keys are vouched for: the next one of the server that asks, signed by its key of now.
func TestHandedVouches(t *testing.T) {
	for _, a := range askers(t) {
		for keys := range byte(5) {
			if a.s.Terms() == nil && keys != 1 {
				continue
			}
			r := a.relay(1, 1)
			// It vouches by its first secret, whatever its key is now.
			r.Secret, r.Chain = secret(1, 1), a.chain(1, 1, 0)
			right := a.object(3, keys+1)
			for i, change := range []func(x *api.Object){
				func(x *api.Object) {},
				func(x *api.Object) { *x = a.vouched(*x, 0) },
				func(x *api.Object) { *x = a.vouched(*x, 1, 1, 2, 3) },
				func(x *api.Object) { x.From, x.Until = 9, 3; x.Sig = a.sig(secret(3, keys), objectText(*x)) },
				func(x *api.Object) { x.Key = run(5); x.Sig = a.sig(secret(3, keys), objectText(*x)) },
				func(x *api.Object) { x.Server = 2; x.Sig = a.sig(secret(3, keys), objectText(*x)) },
				func(x *api.Object) { x.Server = 1; x.Sig = a.sig(secret(3, keys), objectText(*x)) },
				func(x *api.Object) { x.Server += 4; x.Sig = a.sig(secret(3, keys), objectText(*x)) },
				func(x *api.Object) { x.N++; x.Sig = a.sig(secret(3, keys), objectText(*x)) },
				func(x *api.Object) { x.N--; x.Sig = a.sig(secret(3, keys), objectText(*x)) },
				func(x *api.Object) { x.N = 255; x.Sig = a.sig(secret(3, keys), objectText(*x)) },
				func(x *api.Object) { x.Sig = a.sig(secret(3, keys+1), objectText(*x)) },
				func(x *api.Object) { x.Sig[0]++ },
				func(x *api.Object) { x.Sig = api.Sig{} },
				func(x *api.Object) { x.Key[3]++ },
				func(x *api.Object) { x.From++ },
			} {
				x := laid(right)
				change(&x)
				p := a.transOf(3, 1, api.PackTrans, api.Trans{Id: 1, Items: []api.Item{vouch(x)}})
				p.Chain = a.chain(3, int(keys), 0)
				q, out, e := a.handle(r, a.signed(secret(3, keys), p))
				a.is("a key that is to be vouched for", e, api.OK)
				l := a.acknowledged(q, out, 3).Items
				if i > 4 {
					if len(l) != 0 {
						t.Fatalf("the change %d of the key %d: %v", i, keys+1, l)
					}
					continue
				}
				want := x
				want.Vouches = []api.Vouch{{Notary: 1, Sig: a.sig(secret(1, 0), vouchText(x, 1))}}
				if len(l) != 1 || !sameItem(l[0], vouchedFor(want)) {
					t.Fatalf("the key %d is vouched for by %v, want %v", keys+1, l, want)
				}
			}
			// Signed by the key ahead of that of now.
			if keys > 0 {
				x := right
				x.Sig = a.sig(secret(3, keys-1), objectText(x))
				p := a.transOf(3, 1, api.PackTrans, api.Trans{Id: 1, Items: []api.Item{vouch(x)}})
				p.Chain = a.chain(3, int(keys), 0)
				q, out, e := a.handle(r, a.signed(secret(3, keys), p))
				if e != api.OK || len(a.acknowledged(q, out, 3).Items) != 0 {
					t.Fatal("a key that an old key signed is vouched for")
				}
			}
		}
	}
}

// What isn't for a transaction is passed over, and answered with nothing; what is behind it is done.
func TestHandedOthers(t *testing.T) {
	for _, a := range askers(t) {
		r := a.relay(1, 1)
		r.Homes[0].Shelf = a.shelf(4, 1)
		r, _, e := a.rotate(r, run(9))
		a.is("Rotate", e, api.OK)
		of := a.bundles(8, 1)[1]
		for _, x := range []api.Item{give(4, of), give(5, a.bundles(4, 1)[1]), none(4, 8), none(8, 4), vouchedFor(a.vouched(r.Turn, 2)), vouchedFor(a.object(2, 1)), ask(4, 8), ask(5, 4), letter(4, 5, ""), vouch(a.object(1, 1))} {
			q, l, e := a.handed(r, 2, x)
			if e != api.OK || len(l) != 0 {
				t.Fatalf("an item of the kind %d: %d %v", x.Kind, e, l)
			}
			q.Last, q.Acks = r.Last, r.Acks
			if d := differs(q, r); d != "" {
				t.Fatalf("an item of the kind %d changed %s", x.Kind, d)
			}
			q, l, e = a.handed(r, 2, x, ask(8, 4), x, letter(8, 6, "behind"))
			if e != api.OK || len(l) != 1 || l[0].Kind != api.ItemGive || len(q.Homes[2].Inbox.Items) != 1 {
				t.Fatalf("behind an item of the kind %d: %d %v", x.Kind, e, l)
			}
		}
		_, l, e := a.handed(r, 2)
		if e != api.OK || len(l) != 0 {
			t.Fatalf("no items: %d %v", e, l)
		}
	}
}

// The bytes that are kept and sent.
func TestAckBytes(t *testing.T) {
	a := reckoner(t)
	r := a.relay(2, 0)
	r.Last[1] = 0x0506
	q, out, e := a.handle(r, a.hands(1, 2, 0x0507, ask(7, 8)))
	a.is("a transaction", e, api.OK)
	body := joined([]byte{5, 7}, joined([]byte{4}, []byte{7}, []byte{8}))
	sig := a.s.Sign(secret(2, 0), packetText(api.Packet{From: 2, To: 1, Kind: 4, Body: body}))
	if want := joined([]byte{2}, []byte{1}, []byte{4}, joined(), body, sig[:]); len(out) != 1 || !bytes.Equal(out[0], want) || !bytes.Equal(q.Acks[1], body) {
		t.Errorf("it is acknowledged with %x, want %x", out, want)
	}
}

// First the acknowledgement is sent, then what waits, by rising numbers.
func TestTransFlush(t *testing.T) {
	for _, a := range askers(t) {
		r := a.relay(2, 0)
		r.Queues[0], r.Queues[1], r.Queues[3] = filled(6, 9), filled(1, 0), filled(3, 7)
		r.Queues[3].Sent, r.Queues[3].Wait = 2, 1
		q, out, e := a.handle(r, a.hands(1, 2, 1))
		a.is("a transaction", e, api.OK)
		l := a.sent(q, out)
		if len(l) != 3 || l[0].Kind != api.PackAck || l[0].To != 1 || l[1].Kind != api.PackTrans || l[1].To != 0 || l[2].To != 1 {
			t.Fatalf("there are sent %v", l)
		}
		if m := a.trans(q, out); m[0].Id != 10 || len(m[0].Items) != 4 || m[1].Id != 1 {
			t.Fatalf("there are sent %v", m)
		}
	}
}

// Where there is little room for terms, vouches and signatures are zeros.
func TestTransInAFullTable(t *testing.T) {
	for room := range 5 {
		a := termer(t)
		r := a.relay(0, 1)
		r.Queues[2] = filled(1, 0)
		b := a.hands(1, 0, 1, ask(4, 0), vouch(a.object(1, 1)), letter(4, 1, "hi"))
		a.fill(room)
		r, out, e := a.handle(r, b)
		a.is("a transaction", e, api.OK)
		p, _ := wire.GetPacket(out[0])
		x, e := wire.GetTrans(p.Body)
		if e != api.OK || len(x.Items) != 2 || len(out) != 2 || len(r.Homes[1].Inbox.Items) != 1 {
			t.Fatalf("with room for %d it is acknowledged with %d %v", room, e, x)
		}
		other, _ := wire.GetPacket(out[1])
		// In this order they are made.
		for i, sig := range []api.Sig{x.Items[1].Object.Vouches[0].Sig, p.Sig, other.Sig} {
			if (sig == api.Sig{}) != (i >= room) {
				t.Errorf("with room for %d the signature %d is %x", room, i, sig)
			}
		}
	}
}
