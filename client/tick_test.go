package client_test

import (
	"bytes"
	"fmt"
	"slices"
	"testing"

	"missive/account"
	"missive/api"
	"missive/suite"
	"missive/wire"
)

// P23.2

// waiting is a device for which there is all to do that there may be: bit by bit of what. Of nothing it syncs once more.
func (a asker) waiting(what int) api.Client {
	a.Helper()
	is := func(i int) bool { return what>>i&1 == 1 }
	c := a.device(5, 2, 3, 4)
	c.Synced = !is(0)
	if is(1) {
		c.Again, _ = wire.PutCall(api.Call{Kind: api.CallPost, Seq: 3, Letter: api.Letter{From: 5, To: 2, Body: []byte("again")}})
	}
	if is(2) {
		c.Known = false
	}
	if is(3) {
		c.Up = 2
	}
	if is(4) {
		c = a.says(c, 2, "to be posted")
		peer(&c, 2).Sessions = []api.Session{a.writer(2, a.device(5), 1).x}
	}
	if is(5) {
		c = a.says(c, 3, "without a key")
	}
	if is(6) {
		c = a.says(c, 4, "asked for")
		peer(&c, 4).Asked = true
	}
	return c
}

// The first of what there is to do is done, each beside each.
func TestTickDoesTheFirst(t *testing.T) {
	kinds := []byte{api.CallSync, api.CallPost, api.CallUpload, api.CallUpload, api.CallPost, api.CallClaim, api.CallSync}
	a := termer(t)
	for what := range 1 << 7 {
		c := a.waiting(what)
		c.Since = 77
		got, x := a.ticked(c)
		want := byte(api.CallSync)
		for i, kind := range kinds {
			if what>>i&1 == 1 {
				want = kind
				break
			}
		}
		if x.Kind != want || got.Seq != c.Seq+1 || got.Synced != (c.Synced && want == api.CallSync) {
			t.Fatalf("of %b it does %d", what, x.Kind)
		}
		if x.Kind == api.CallSync && x.Since != 77 {
			t.Errorf("a sync since %d", x.Since)
		}
		if again := len(got.Again) > 0; again != (what&2 != 0 && what&1 != 0) {
			t.Errorf("of %b again is still to be done: %t", what, again)
		}
		if asked := peer(&got, 3).Asked; asked != (x.Kind == api.CallClaim) {
			t.Errorf("of %b it has asked: %t", what, asked)
		}
		// Till it is answered it is sent once more, whatever else there is.
		for i := range 3 {
			again, out := a.tick(got, run(byte(i)))
			if y := a.sent(again, out); y.Kind != x.Kind || differs(again, got) != "" {
				t.Fatalf("of %b it does %d, then %d", what, x.Kind, y.Kind)
			}
		}
	}
}

func TestTickReally(t *testing.T) {
	if testing.Short() {
		t.Skip()
	}
	a := reckoner(t)
	for _, what := range []int{0, 1, 2, 4, 8, 16, 32, 64} {
		c, _ := a.ticked(a.waiting(what))
		a.tick(c, run(3))
	}
}

// What is being done is sent once more, of a device that has nothing else, too, and at any number.
func TestDoingIsSentAgain(t *testing.T) {
	for _, a := range askers(t) {
		d := drawer(5)
		for _, seq := range edges() {
			c := api.Client{Device: 7, Account: owned(7), Seq: seq, Doing: d.text(1 + d.below(50))}
			got, out := a.tick(c, run(1))
			if len(out) != 1 || differs(got, c) != "" {
				t.Fatalf("the call %d: %d are sent, %s", seq, len(out), differs(got, c))
			}
			again, more := a.tick(got, run(2))
			if !sameTexts(more, out) || differs(again, got) != "" {
				t.Fatalf("the call %d, once more: %x, %x", seq, more, out)
			}
		}
	}
}

// The bytes of the first packet, put down by hand.
func TestTheFirstPacketByHand(t *testing.T) {
	for _, a := range askers(t) {
		c := a.begin(9, owned(9), a.cache(0))
		got, out := a.tick(c, run(1))
		body := []byte{3, 0, 1, 4, 0, 2, 0, 1, 0, 2, 0, 0}
		text := []byte{6, 0, 4, 'p', 'a', 'c', 'k', 0, 1, 25, 0, 1, 2, 0, 1, 1, 0, 1, 0, 0, 12}
		sig := both(a, func(s suite.Suite) api.Sig { return s.Sign(run(129), append(text, body...)) })
		want := slices.Concat([]byte{6, 0, 1, 25, 0, 1, 2, 0, 1, 1, 0, 1, 0, 0, 12}, body, []byte{0, 64}, sig[:])
		if len(out) != 1 || !bytes.Equal(out[0], want) || !bytes.Equal(got.Doing, body) || got.Seq != 1 || got.Synced {
			t.Errorf("the first packet is %x, want %x", out, want)
		}
	}
}

// Of each device to its server.
func TestTickOfEachDevice(t *testing.T) {
	a := termer(t)
	all(func(n byte) {
		got, out := a.tick(api.Client{Device: n, Account: owned(n), Since: uint16(n)}, run(1))
		p, e := wire.GetPacket(out[0])
		a.is("the packet", e, api.OK)
		if p.From != 16+n || p.To != n/4 {
			t.Errorf("of %d: from %d to %d", n, p.From, p.To)
		}
		if x := a.sent(got, out); x.Kind != api.CallSync || x.Since != uint16(n) || x.Seq != 1 {
			t.Errorf("of %d: %v", n, x)
		}
	})
}

// At the greatest number nothing is called any more, whatever there is to do.
func TestTickNumbers(t *testing.T) {
	a := termer(t)
	for _, seq := range edges() {
		for what := range 1 << 7 {
			if seq > 1 && seq < 65534 && what > 1 {
				break
			}
			c := a.waiting(what)
			c.Seq = seq
			got, out := a.tick(c, run(1))
			if seq == 65535 {
				if len(out) != 0 || differs(got, c) != "" {
					t.Errorf("behind the call %d there is another one, %s", seq, differs(got, c))
				}
			} else if x := a.sent(got, out); x.Seq != seq+1 {
				t.Errorf("behind the call %d comes %d", seq, x.Seq)
			}
		}
	}
}

// A call that was refused is made again as it was, but for its number.
func TestAgain(t *testing.T) {
	for _, a := range askers(t) {
		for _, x := range []api.Call{
			{Kind: api.CallPost, Seq: 3, Letter: api.Letter{From: 5, To: 2, Header: api.Header{Session: run(1), N: 7}, Body: []byte("again")}},
			{Kind: api.CallClaim, Seq: 65535, Peer: 200},
			{Kind: api.CallUpload, Bundles: a.bundles(5, 1, 2)},
			{Kind: api.CallSync, Seq: 9, Since: 1234},
		} {
			c := a.waiting(8 + 16 + 32)
			c.Seq, c.Again = 8, nil
			c.Again, _ = wire.PutCall(x)
			got, out := a.tick(c, run(3))
			x.Seq = 9
			want, _ := wire.PutCall(x)
			if y := a.sent(got, out); y.Kind != x.Kind || !bytes.Equal(got.Doing, want) || len(got.Again) > 0 {
				t.Errorf("again comes %v, want %v", y, x)
			}
			// Only behind a sync the device has synced.
			if got.Synced != (x.Kind == api.CallSync) {
				t.Errorf("behind the call %d it has synced: %t", x.Kind, got.Synced)
			}
			got.Doing, got.Again, got.Synced, got.Seq = nil, c.Again, c.Synced, c.Seq
			a.left("a call again", got, c)
		}
	}
}

// left asks whether the device is as it was.
func (a asker) left(what string, c, was api.Client) {
	a.Helper()
	if d := differs(c, was); d != "" {
		a.Fatalf("%s changed %s", what, d)
	}
}

// Bytes that are no call's can't be called: nothing is sent then.
func TestAgainOfNoCall(t *testing.T) {
	for _, a := range askers(t) {
		for _, again := range []string{"again", "\x00", "\x01\x00\x01\x07", "\x03\x00\x01\x04\x00\x02\x00\x01\x00\x02\x00\x00\x00"} {
			c := a.waiting(16)
			c.Again = []byte(again)
			got, out := a.tick(c, run(3))
			if len(out) != 0 || len(got.Doing)+len(got.Again) != 0 || got.Synced || got.Seq != c.Seq+1 {
				t.Errorf("again of %q: %x is sent", again, out)
			}
		}
	}
}

// Which keys are brought: the fallback, and those above Up.
func TestUpload(t *testing.T) {
	for _, a := range askers(t) {
		for _, c := range []struct {
			known bool
			up    uint16
			ids   []uint16
			want  []uint16 // beside the fallback
			not   bool     // there is nothing to bring
		}{
			{false, 0, nil, nil, false},
			{true, 0, nil, nil, true},
			{false, 0, []uint16{1, 2, 3}, []uint16{1, 2, 3}, false},
			{true, 0, []uint16{1, 2, 3}, []uint16{1, 2, 3}, false},
			{true, 1, []uint16{1, 2, 3}, []uint16{2, 3}, false},
			{false, 1, []uint16{1, 2, 3}, []uint16{2, 3}, false},
			{true, 2, []uint16{1, 2, 3}, []uint16{3}, false},
			{true, 3, []uint16{1, 2, 3}, nil, true},
			{false, 3, []uint16{1, 2, 3}, nil, false},
			{true, 4, []uint16{1, 2, 3}, nil, true},
			{false, 65535, []uint16{1, 2, 65535}, nil, false},
			{true, 65535, []uint16{1, 2, 65535}, nil, true},
			{true, 65534, []uint16{1, 2, 65535}, []uint16{65535}, false},
			{true, 255, []uint16{7, 255, 256, 257}, []uint16{256, 257}, false},
			{true, 256, []uint16{255, 256, 257}, []uint16{257}, false},
			{false, 0, []uint16{1, 2, 3, 4, 5, 6, 7, 8}, []uint16{1, 2, 3, 4, 5, 6, 7, 8}, false},
			{true, 3, []uint16{4, 1, 5, 0, 3}, []uint16{4, 5}, false},
			{true, 0, []uint16{0, 0}, nil, true},
		} {
			x := a.device(5)
			x.Account, x.Known, x.Up = owned(5, c.ids...), c.known, c.up
			got, y := a.ticked(x)
			if (y.Kind == api.CallSync) != c.not {
				t.Fatalf("known %t up to %d, with %d: the call %d", c.known, c.up, c.ids, y.Kind)
			}
			if c.not {
				continue
			}
			if y.Kind != api.CallUpload || !slices.Equal(y.Bundles, a.bundles(5, c.want...)) {
				t.Errorf("known %t up to %d, with %d: there are brought %v", c.known, c.up, c.ids, y.Bundles)
			}
			if got.Known != c.known || got.Up != c.up {
				t.Errorf("ahead of the reply it is known: %t up to %d", got.Known, got.Up)
			}
		}
	}
}

// Of an account of any numbers, too, the fallback is the first of the bundles, whatever its number.
func TestUploadOfAStrangeAccount(t *testing.T) {
	a := termer(t)
	c := a.device(5)
	c.Account.Fallback.Id, c.Up = 2, 2
	if _, x := a.ticked(c); len(x.Bundles) != 2 || x.Bundles[0].Id != 2 || x.Bundles[1].Id != 3 {
		t.Errorf("there are brought %v", x.Bundles)
	}
	for left := range 12 {
		var ids []uint16
		for i := range left {
			ids = append(ids, uint16(i+1))
		}
		c.Account, c.Up, c.Known = owned(5, ids...), 0, false
		got, out := a.tick(c, run(1))
		if left <= 8 {
			a.sent(got, out)
		} else if len(out) != 0 || len(got.Doing) != 0 {
			// More than a call can have isn't written.
			t.Errorf("of %d keys there is sent %x", left, out)
		}
		c.Up, c.Known = 1, true
		if got, out = a.tick(c, run(1)); left > 1 && left <= 9 {
			a.sent(got, out)
		}
	}
}

// What waits for a peer is sealed by the session with the least number.
func TestWhichSession(t *testing.T) {
	for _, a := range askers(t) {
		near := a.writer(4, a.device(5), 1).x
		for i, ids := range [][]api.Key{
			{{1}, {2}, {3}},
			{{3}, {2}, {1}},
			{{2}, {1}, {3}},
			{{31: 2}, {31: 1}, {30: 1}},
			{{200}, {100}, {127}, {128}},
			{{0: 1, 31: 255}, {0: 1, 30: 1}, {0: 1, 30: 1, 31: 1}},
			{{}, {31: 1}},
			{{31: 1}, {}},
			{{7}, {7}},
			{{8}, {7}, {7}},
			{{255}},
		} {
			c := a.says(a.device(5, 4), 4, "one", "two")
			least := 0
			for n, id := range ids {
				x := near
				x.Id = id
				x.Send.N = uint16(n)
				c.Peers[0].Sessions = append(c.Peers[0].Sessions, x)
				if bytes.Compare(id[:], ids[least][:]) < 0 {
					least = n
				}
			}
			got, x := a.ticked(c)
			if x.Kind != api.CallPost || x.Letter.Header.Session != ids[least] || x.Letter.Header.N != uint16(least) {
				t.Fatalf("of the sessions %d there is taken %v", i, x.Letter.Header)
			}
			for n, y := range got.Peers[0].Sessions {
				if sameSession(y, c.Peers[0].Sessions[n]) != (n != least) {
					t.Errorf("of the sessions %d there goes on %d", i, n)
				}
			}
		}
	}
}

// A letter has in it the number and what is said; it waits on till it is posted.
func TestLetters(t *testing.T) {
	for _, a := range askers(t) {
		other := a.device(4)
		for _, body := range []string{"", "x", "what is said", string(make([]byte, 64))} {
			for _, n := range []uint16{0, 255, 258, 65533} {
				c := a.device(5, 4)
				c.Peers[0].Told = n
				c = a.says(c, 4, body, "something else")
				w := a.writer(5, other, 2)
				c.Peers[0].Sessions = []api.Session{w.x}
				got, x := a.ticked(c)
				y := x.Letter
				if y.From != 5 || y.To != 4 || !y.Header.First || len(got.Peers[0].Out) != 2 || got.Peers[0].Told != n+2 {
					t.Fatalf("the letter is %v", y)
				}
				_, heard := a.takes(with(a.trusts(other, 5), func(c *api.Client) { c.Peers[0].Last = n }), api.Item{Kind: api.ItemLetter, Letter: y})
				a.heard(heard, 5, n+1, body)
			}
		}
	}
}

// Whoever answers does so by a new ratchet key, of the draw 0.
func TestTheDrawOfALetter(t *testing.T) {
	for _, a := range askers(t) {
		c := a.device(5, 4)
		w := a.writer(4, c, 1)
		c, heard := a.takes(c, a.writes(w, 5, 1, "hello"))
		a.heard(heard, 4, 1, "hello")
		c = a.says(c, 4, "hi")
		d := run(50)
		got, out := a.tick(c, d)
		x := a.sent(got, out)
		d[31] = 0
		ratchet := both(a, func(s suite.Suite) api.Key { return s.Public(s.Fresh(d)) })
		if x.Letter.Header.Ratchet != ratchet || x.Letter.Header.First {
			t.Errorf("the header is %v", x.Letter.Header)
		}
		if text := a.reads(w, x.Letter); text != "\x02\x00\x02\x00\x01\x00\x02hi" {
			t.Errorf("the letter has %q in it", text)
		}
	}
}

// unable is a session by which nothing is sealed.
func unable(what int) api.Session {
	switch what {
	case 0: // It is at its greatest number.
		return api.Session{Id: run(1), HasSend: true, Send: api.Chain{Key: run(2), N: 65535}}
	case 1: // It is none.
		return api.Session{Id: run(1)}
	}
	// In the real suite nobody agrees with a zero key.
	return api.Session{Id: run(1), HasRecv: true}
}

// Where sealing fails the next peer is looked at, and nothing has changed.
func TestWhereSealingFails(t *testing.T) {
	for _, a := range askers(t) {
		for what := range 3 {
			if what == 2 && a.s.Terms() != nil {
				continue
			}
			for bits := range 8 {
				c := a.device(5, 1, 2, 3, 4)
				for i := range 3 {
					c = a.says(c, byte(i+1), "text")
					c.Peers[i].Sessions = []api.Session{unable(what)}
					if bits>>i&1 == 1 {
						c.Peers[i].Sessions = []api.Session{a.writer(4, a.device(5), 1).x}
					}
				}
				c = a.says(c, 4, "without a session")
				got, x := a.ticked(c)
				switch {
				case bits == 0:
					if x.Kind != api.CallClaim || x.Peer != 4 {
						t.Fatalf("the call is %v", x)
					}
					got.Peers[3].Asked = false
				case x.Kind != api.CallPost || bits&(1<<(x.Letter.To-1)) == 0 || bits&(1<<(x.Letter.To-1)-1) != 0:
					t.Fatalf("of %b the letter is to %d", bits, x.Letter.To)
				default:
					got.Peers[x.Letter.To-1].Sessions = c.Peers[x.Letter.To-1].Sessions
				}
				got.Doing, got.Seq, got.Synced = nil, c.Seq, true
				a.left("sealing that failed", got, c)
			}
		}
	}
}

// What has more than a letter can have isn't sealed.
func TestLettersThatAreTooLong(t *testing.T) {
	a := termer(t)
	for _, size := range []int{65, 1017, 1018, 4096, 4097, 70000} {
		c := a.says(a.device(5, 1, 4), 4, "text")
		w := a.writer(4, a.device(5), 1).x
		c.Peers[0].Sessions, c.Peers[1].Sessions = []api.Session{w}, []api.Session{w}
		c.Peers[0].Out = []api.Said{{N: 1, Body: make([]byte, size)}}
		_, x := a.ticked(c)
		if long := size > 1017; x.Kind != api.CallPost || (x.Letter.To == 4) != long {
			t.Errorf("of %d bytes the letter is to %d", size, x.Letter.To)
		}
	}
}

// Peers are looked at in order, whatever the others are like.
func TestPeersInOrder(t *testing.T) {
	a := termer(t)
	session := a.writer(4, a.device(5), 1).x
	for way := range 4 * 4 * 4 {
		c := a.device(5, 1, 2, 3)
		want, to := byte(api.CallSync), byte(0)
		for i, n := 0, way; i < 3; i, n = i+1, n/4 {
			p := &c.Peers[i]
			if n%4 > 0 { // something waits
				p.Out = []api.Said{{N: 1, Body: []byte("text")}}
			}
			p.Asked = n%4 == 1
			if n%4 == 3 || n%4 == 0 {
				p.Sessions = []api.Session{session}
			}
			if to == 0 && n%4 > 1 {
				want, to = []byte{0, 0, api.CallClaim, api.CallPost}[n%4], byte(i+1)
			}
		}
		got, x := a.ticked(c)
		if x.Kind != want || x.Peer+x.Letter.To != to {
			t.Fatalf("of %d the call is %v", way, x)
		}
		for i, p := range got.Peers {
			if asked := c.Peers[i].Asked || want == api.CallClaim && p.Device == to; p.Asked != asked || len(p.Out) != len(c.Peers[i].Out) {
				t.Fatalf("of %d the peer is %v", way, p)
			}
		}
	}
}

// One who was asked for has a letter when there is a session, and is asked for no more while there is one.
func TestAskedForBesideASession(t *testing.T) {
	a := termer(t)
	c := a.says(a.device(5, 4), 4, "text")
	c.Peers[0].Asked = true
	c.Peers[0].Sessions = []api.Session{a.writer(4, a.device(5), 1).x}
	if got, x := a.ticked(c); x.Kind != api.CallPost || !got.Peers[0].Asked {
		t.Errorf("the call is %v", x)
	}
	c.Peers[0].Out = nil
	if _, x := a.ticked(c); x.Kind != api.CallSync {
		t.Errorf("the call is %v", x)
	}
}

// What is too long for a packet isn't sent.
func TestDoingThatIsTooLong(t *testing.T) {
	for _, a := range askers(t) {
		for _, size := range []int{4095, 4096, 4097, 70000} {
			c := api.Client{Device: 7, Account: owned(7), Doing: make([]byte, size)}
			got, out := a.tick(c, run(1))
			if len(out) == 1 != (size <= 4096) || differs(got, c) != "" {
				t.Errorf("of %d bytes there are sent %d", size, len(out))
			}
		}
	}
}

// Where the table is nearly full.
func TestTickWithLittleRoom(t *testing.T) {
	for room := range 16 {
		a := termer(t)
		var l []api.Client
		for _, what := range []int{0, 1, 2, 4, 8, 16, 32} {
			l = append(l, a.waiting(what))
		}
		mine := a.device(5, 4)
		w := a.writer(4, mine, 1)
		mine, _ = a.takes(mine, a.writes(w, 5, 1, "hello"))
		l = append(l, a.says(mine, 4, "answer"))
		a.fill(room)
		c := l[room%len(l)]
		c, _ = a.tick(c, run(1))
		a.tick(c, run(2))
		if a.count() > api.MaxTerms {
			t.Error(a.count(), "terms")
		}
	}
	for _, what := range []int{4, 16} {
		for room := range 13 {
			a := termer(t)
			c := a.waiting(what)
			a.fill(room)
			c, _ = a.tick(c, run(1))
			a.tick(c, run(2))
		}
	}
}

// The example: which calls a new device makes; and its keys are those of its account.
func TestTheCallsOfANewDevice(t *testing.T) {
	for _, a := range askers(t) {
		x := both(a, func(s suite.Suite) api.Account { return account.New(s, run(1), run(2), run(3)) })
		c := a.trusts(a.begin(5, x, a.cache(0)), 4)
		c = a.says(c, 4, "one", "two")
		var kinds []byte
		for i := range 12 {
			var y api.Call
			c, y = a.ticked(c)
			kinds = append(kinds, y.Kind)
			var items []api.Item
			switch {
			case y.Kind == api.CallSync && i == 4:
				items = []api.Item{give(5, a.bundles(4, 1)[1])}
			case y.Kind == api.CallUpload:
				var ids []uint16
				for _, b := range y.Bundles {
					ids = append(ids, b.Id)
				}
				if fmt.Sprint(ids) != "[0 1 2 3 4]" {
					t.Errorf("there are brought %v", ids)
				}
			}
			var e api.Errno
			c, _, e = a.handle(c, a.replies(c, api.OK, items...), run(byte(i)))
			a.is("the reply", e, api.OK)
		}
		if want := []byte{4, 1, 4, 2, 4, 3, 4, 3, 4, 4, 4, 4}; !bytes.Equal(kinds, want) {
			t.Errorf("the calls are %v, want %v", kinds, want)
		}
		if p := c.Peers[0]; len(p.Out) != 0 || p.Told != 2 || p.Asked || len(p.Sessions) != 1 || c.Up != 4 || !c.Known {
			t.Errorf("behind them it is %v", c)
		}
	}
}
