package relay_test

import (
	"fmt"
	"slices"
	"testing"

	"missive/api"
	"missive/plane"
	"missive/suite"
)

// P22.3

func TestTick(t *testing.T) {
	for _, a := range askers(t) {
		r := a.relay(1, 0)
		r.Queues[0], r.Queues[2], r.Queues[3] = filled(5, 0), filled(1, 8), filled(2, 9)
		r.Queues[2].Sent, r.Queues[2].Wait, r.Queues[2].Back = 1, 2, 2
		r.Queues[3].Wait = 1
		r.Homes[1].Inbox = filled(3, 8)
		r.Homes[1].Inbox.Wait = 2
		for i, want := range []string{
			"0/1/4 3/10/2 ", "0/1/4 2/8/1 3/10/2 ", "", "0/1/4 3/10/2 ", "", "2/8/1 ", "", "0/1/4 3/10/2 ",
			"", "", "", "", "", "2/8/1 ", "", "0/1/4 3/10/2 ", "", "", "", "", "", "", "", "", "", "", "", "", "", "2/8/1 ", "",
		} {
			var out [][]byte
			r, out = a.tick(r)
			sends := ""
			for _, p := range a.sent(r, out) {
				x := a.trans(r, out)[p.To]
				sends += fmt.Sprintf("%d/%d/%d ", p.To, x.Id, len(x.Items))
			}
			// To which servers which numbers are sent, with how many items.
			if sends != want || int(r.Clock) != i+1 {
				t.Fatalf("at the tick %d there are sent %q, want %q", i+1, sends, want)
			}
		}
		if r.Homes[1].Inbox.Wait != 2 || len(r.Homes[1].Inbox.Items) != 3 {
			t.Fatalf("behind the ticks the inbox is %s", brief(r.Homes[1].Inbox))
		}
	}
}

func TestTickAtTheEndOfTime(t *testing.T) {
	for _, a := range askers(t) {
		r := a.relay(1, 0)
		for _, c := range [][2]uint32{{0, 1}, {255, 256}, {65535, 65536}, {1<<31 - 1, 1 << 31}, {1<<32 - 2, 1<<32 - 1}, {1<<32 - 1, 1<<32 - 1}} {
			r.Clock = c[0]
			if q, out := a.tick(r); q.Clock != c[1] || len(out) != 0 {
				t.Errorf("a tick at %d: %d", c[0], q.Clock)
			}
		}
	}
}

// What may be wrong with Rotate, each beside each.
func TestRotateTheFirstErrorIsTold(t *testing.T) {
	errors := []api.Errno{api.ErrBusy, api.ErrCount, api.ErrNone, api.ErrFull}
	for _, a := range askers(t) {
		for holds := range 1 << len(errors) {
			is := func(i int) bool { return holds>>i&1 == 1 }
			r := a.relay(2, 2)
			if is(3) {
				r.Queues[1] = filled(8, 3)
			}
			if is(2) {
				r.Cache.First[0], r.Cache.First[3] = api.Key{}, api.Key{}
			}
			if is(1) {
				r.Chain = a.chain(2, 4)
			}
			if is(0) {
				r.Turning, r.Turn, r.TurnSecret = true, a.object(2, 1), secret(2, 1)
			}
			was := a.count()
			q, out, e := a.rotate(r, run(byte(holds)))
			a.is(fmt.Sprintf("Rotate, %b", holds), e, first(holds, errors))
			if d := differs(q, r); e != api.OK && (d != "" || len(out) != 0) {
				t.Fatalf("beside the error %d there is changed %s", e, d)
			}
			if made := a.count() - was; e != api.OK && e != api.ErrFull && made != 0 {
				t.Fatalf("ahead of the error %d there were made %d terms", e, made)
			}
		}
	}
}

// next is what a new key of the server should be.
func (a asker) next(r api.Relay, draw api.Key) (x api.Object, fresh api.Key) {
	fresh = a.s.Fresh(draw)
	x = api.Object{Server: r.Server, N: byte(len(r.Chain) + 1), Key: a.s.Signer(fresh), From: r.Clock, Until: 4294967295}
	x.Sig = a.s.Sign(r.Secret, objectText(x))
	return x, fresh
}

// Without any need of vouches the key is that of now at once.
func TestRotateAlone(t *testing.T) {
	for _, a := range askers(t) {
		r := a.relay(3, 0)
		r.Cache.First = [4]api.Key{3: r.Cache.First[3]}
		r.Clock = 70
		r.Queues[1] = filled(1, 0)
		for n := range byte(5) {
			q, out, e := a.rotate(r, run(n))
			if n == 4 {
				a.is("the fifth key", e, api.ErrCount)
				break
			}
			x, fresh := a.next(r, run(n))
			if e != api.OK || q.Turning || q.Secret != fresh || q.First != r.First || len(q.Chain) != int(n)+1 || !sameObject(q.Chain[n], x) || !slices.EqualFunc(q.Chain[:n], r.Chain, sameObject) {
				t.Fatalf("the key %d: %d %v, want %v", n+1, e, q.Chain, x)
			}
			sends := 0
			if n == 0 {
				sends = 1
			}
			if l := a.sent(q, out); len(l) != sends || n == 0 && (len(l[0].Chain) != 1 || l[0].To != 1) {
				t.Fatalf("behind the key %d there are sent %v", n+1, l)
			}
			q.Clock += 5
			r = q
		}
	}
}

// Whom it asks: the nearest ones of those that are there.
func TestRotateAsksTheNearest(t *testing.T) {
	a := termer(t)
	for server := range 40 {
		for set := range 16 {
			for need := range byte(5) {
				r := a.relay(byte(server%4), need)
				r.Server = byte(server)
				var others []byte
				for n := range byte(4) {
					if set>>n&1 == 0 {
						r.Cache.First[n] = api.Key{}
					} else if int(n) != server {
						others = append(others, n)
					}
				}
				q, out, e := a.rotate(r, run(1))
				if len(others) < int(need) {
					a.is("too few", e, api.ErrNone)
					continue
				}
				a.is("Rotate", e, api.OK)
				if need == 0 {
					continue
				}
				x, fresh := a.next(r, run(1))
				if !q.Turning || q.TurnSecret != fresh || !sameObject(q.Turn, x) || q.Secret != r.Secret || len(q.Chain) != 0 || len(out) != int(need) {
					t.Fatalf("there is turning %v, want %v", q.Turn, x)
				}
				// Whoever isn't asked is no nearer than who is.
				for i, n := range others {
					asked := len(q.Queues[n].Items) == 1
					if asked && (!sameItem(q.Queues[n].Items[0], vouch(x)) || q.Queues[n].Sent != 1) {
						t.Fatalf("the server %d is asked %v", n, q.Queues[n].Items)
					}
					if !asked && len(q.Queues[n].Items) > 0 {
						t.Fatalf("the server %d is asked %v", n, q.Queues[n].Items)
					}
					for _, m := range others[:i] {
						here, _ := plane.Spot(server)
						d, c := far(here, n), far(here, m)
						if other := len(q.Queues[m].Items) == 1; asked && !other && d >= c || !asked && other && d < c {
							t.Fatalf("the server %d asks %t %d rather than %t %d", server, asked, n, other, m)
						}
					}
				}
			}
		}
	}
}

// Where the queue of one that is to be asked is full nothing has changed; of one that isn't asked it doesn't matter.
func TestRotateWithoutRoom(t *testing.T) {
	for _, a := range askers(t) {
		for need := range byte(4) {
			for full := range byte(3) {
				r := a.relay(3, need)
				r.Queues[full] = filled(8, 4)
				r.Queues[full].Sent, r.Queues[full].Wait = 1, 5
				q, out, e := a.rotate(r, run(5))
				if full >= need {
					if e != api.OK || len(out) != int(need) {
						t.Fatalf("where %d has no room %d are asked: %d", full, need, e)
					}
					continue
				}
				a.is("without room", e, api.ErrFull)
				if d := differs(q, r); d != "" || len(out) != 0 {
					t.Fatalf("without room there is changed %s", d)
				}
			}
		}
	}
}

// From the clock on, whatever it is; the own Signer isn't asked for.
func TestRotateAtEachClock(t *testing.T) {
	for _, a := range askers(t) {
		for _, clock := range []uint32{0, 1, 255, 65536, 1<<32 - 2, 1<<32 - 1} {
			r := a.relay(0, 0)
			r.Clock, r.Cache.First[0] = clock, api.Key{}
			q, _, e := a.rotate(r, run(2))
			if e != api.OK || q.Chain[0].From != clock || q.Chain[0].Until != 1<<32-1 {
				t.Fatalf("Rotate at %d: %d %v", clock, e, q.Chain)
			}
		}
	}
}

// Where there is little room for terms there are zeros.
func TestRotateInAFullTable(t *testing.T) {
	for _, need := range []byte{0, 2} {
		for room := range 7 {
			a := termer(t)
			r := a.relay(0, need)
			a.fill(room)
			q, out, e := a.rotate(r, run(2))
			if e != api.OK || len(out) != int(need) {
				t.Fatalf("with room for %d: %d", room, e)
			}
			x, fresh := q.Turn, q.TurnSecret
			if need == 0 {
				x, fresh = q.Chain[0], q.Secret
			}
			if (fresh == api.Key{}) != (room < 1) || (x.Key == api.Key{}) != (room < 2) || (x.Sig == api.Sig{}) != (room < 3) {
				t.Fatalf("with room for %d: %x %v", room, fresh, x)
			}
		}
	}
}

// cluster are four servers, of which each is handed what the others send.
type cluster struct {
	a asker
	r [4]api.Relay
}

func (a asker) cluster(need byte) *cluster {
	c := &cluster{a: a}
	for n := range byte(4) {
		c.r[n] = a.relay(n, need)
	}
	return c
}

// settle lets all arrive that is sent, till nothing is.
func (c *cluster) settle(l [][]byte) {
	c.a.Helper()
	for len(l) > 0 {
		pieces, _ := split(l[0])
		if to := pieces[1][0]; to < 4 {
			r, out, e := c.a.handle(c.r[to], l[0])
			c.a.is("between servers", e, api.OK)
			c.r[to], l = r, append(l, out...)
		}
		l = l[1:]
	}
}

// rotate lets a server take a new key, for which the others vouch.
func (c *cluster) rotate(n byte, draw api.Key) {
	c.a.Helper()
	was := len(c.r[n].Chain)
	r, out, e := c.a.rotate(c.r[n], draw)
	c.a.is("Rotate", e, api.OK)
	c.r[n] = r
	c.settle(out)
	if r := c.r[n]; r.Turning || len(r.Chain) != was+1 || len(r.Chain[was].Vouches) != int(r.Cache.Need) || r.Secret != both(c.a, func(s suite.Suite) api.Key { return s.Fresh(draw) }) {
		c.a.Fatalf("behind Rotate: %v", r.Chain)
	}
}

// Each server takes all the keys that there may be; letters go on all the time.
func TestRotateAgainAndAgain(t *testing.T) {
	for _, a := range askers(t) {
		need := byte(3)
		if a.s.Terms() == nil {
			need = 1
		}
		c := a.cluster(need)
		posted := map[byte]int{}
		for round := range byte(4) {
			for n := range byte(4) {
				c.rotate(n, run(16*n+round))
				to := (n + round + 1) % 4
				r, out, e := a.handle(c.r[n], a.calls(4*n, api.Call{Kind: api.CallPost, Seq: uint16(round) + 1, Letter: letter(4*n, 4*to+1, "hi").Letter}))
				a.is("a letter", e, api.OK)
				c.r[n] = r
				c.settle(out[1:])
				posted[to]++
				if got := len(c.r[to].Homes[1].Inbox.Items); got != posted[to] {
					t.Fatalf("of %d letters there came %d", posted[to], got)
				}
			}
			if a.s.Terms() == nil && round == 1 {
				break
			}
			for n, r := range c.r {
				for m, seen := range r.Cache.Highest {
					if m == n && seen != 0 || m != n && need == 3 && (seen < round || seen > round+1) {
						t.Fatalf("the server %d has seen %v in the round %d", n, r.Cache.Highest, round)
					}
				}
			}
		}
		if need == 3 {
			_, _, e := a.rotate(c.r[2], run(200))
			a.is("the fifth key", e, api.ErrCount)
		}
	}
}
