package client_test

import (
	"bytes"
	"fmt"
	"slices"
	"testing"

	"missive/account"
	"missive/api"
	"missive/suite"
	"missive/wire"
)

// P23.4

// A first letter takes a one-time key, and begins a session; the fallback stays.
func TestFirstLetters(t *testing.T) {
	for _, a := range askers(t) {
		for _, id := range []uint16{0, 1, 2, 3} {
			c := a.device(5, 4, 6)
			c.Account = owned(5, 1, 2, 3)
			w := a.writer(4, c, id)
			l := []api.Item{a.writes(w, 5, 1, "one"), a.writes(w, 5, 2, "two"), a.writes(w, 5, 3, "three")}
			got, heard := a.takes(c, l...)
			a.heard(heard, 4, 1, "one", "two", "three")
			p := peer(&got, 4)
			if len(p.Sessions) != 1 || p.Sessions[0].Id != w.x.Id || p.Sessions[0].First || p.Last != 3 || len(p.Held) != 0 || len(peer(&got, 6).Sessions) != 0 {
				t.Fatalf("behind first letters: %v", p)
			}
			gone := !slices.ContainsFunc(got.Account.Left, func(x api.Once) bool { return x.Id == id })
			if !gone || got.Account.Fallback != c.Account.Fallback || len(got.Account.Left) != 3-min(1, int(id)) {
				t.Fatalf("behind a letter by the key %d there are left %v", id, got.Account.Left)
			}
			// They come again: nothing is heard, and nothing changes.
			again, heard := a.takes(got, l...)
			a.heard(heard, 4, 1)
			again.Since, again.Seq = got.Since, got.Seq
			a.left("letters that come again", again, got)
			_, heard = a.takes(again, a.writes(w, 5, 4, "four"))
			a.heard(heard, 4, 4, "four")
		}
	}
}

// In whatever order they come.
func TestLettersInAnyOrder(t *testing.T) {
	a := termer(t)
	base := a.device(5, 4)
	w := a.writer(4, base, 1)
	l := []api.Item{a.writes(w, 5, 1, "1"), a.writes(w, 5, 2, "2"), a.writes(w, 5, 3, "3"), a.writes(w, 5, 4, "4")}
	for way := range 24 {
		rest := slices.Clone(l)
		c, all := base, []api.Heard(nil)
		for left, n := 4, way; left > 0; left-- {
			at := n % left
			n /= left
			var heard []api.Heard
			c, heard = a.takes(c, rest[at])
			rest = slices.Delete(rest, at, at+1)
			all = append(all, heard...)
		}
		a.heard(all, 4, 1, "1", "2", "3", "4")
		if p := c.Peers[0]; p.Last != 4 || len(p.Held)+len(p.Sessions[0].Kept) != 0 {
			t.Fatalf("behind all: %v", p)
		}
	}
}

// From whom and to whom letters, keys and refusals are.
func TestWhoseItems(t *testing.T) {
	for _, device := range []byte{0, 5, 15} {
		a := termer(t)
		mine := a.device(device, 4)
		w := a.writer(4, mine, 1)
		first := a.writes(w, device, 1, "text")
		key := a.bundles(4, 7)[1]
		mine.Peers[0].Asked = true
		all(func(n byte) {
			for _, to := range []bool{false, true} {
				x := first
				if to {
					x.Letter.To = n
				} else {
					x.Letter.From = n
				}
				_, heard := a.takes(mine, x)
				if len(heard) == 1 != (to && n == device || !to && n == 4) {
					t.Fatalf("of a letter of %d to %d is heard %v", x.Letter.From, x.Letter.To, heard)
				}
				b := key
				x = give(device, b)
				if to {
					x.Asker = n
				} else {
					x.Bundle.Device = n
				}
				got, _ := a.takes(mine, x)
				right := to && n == device || !to && n == 4
				if got.Peers[0].Asked == right || len(got.Peers[0].Sessions) == 1 != (right && to || right && x.Bundle == key) {
					t.Fatalf("of a key of %d for %d: %v", x.Bundle.Device, x.Asker, got.Peers)
				}
				x = none(device, 4)
				if to {
					x.Asker = n
				} else {
					x.Peer = n
				}
				if got, _ = a.takes(mine, x); got.Peers[0].Asked == right {
					t.Fatalf("of no key of %d for %d: %v", x.Peer, x.Asker, got.Peers)
				}
			}
		})
	}
}

// What is of another kind is passed over, and is had.
func TestOtherItems(t *testing.T) {
	for _, a := range askers(t) {
		c := a.device(5, 4)
		c.Peers[0].Asked = true
		x := a.object(1, 1, 3, 0)
		got, heard := a.takes(c, api.Item{Kind: api.ItemAsk, Asker: 5, Peer: 4}, api.Item{Kind: api.ItemVouch, Object: x}, api.Item{Kind: api.ItemVouched, Object: x}, api.Item{Kind: api.ItemAsk, Asker: 4, Peer: 5})
		a.heard(heard, 4, 1)
		if got.Since != 4 {
			t.Error(got.Since)
		}
		got.Since, got.Seq = 0, 0
		a.left("other items", got, c)
	}
}

// A letter of no session that isn't a first one is passed over.
func TestLettersOfNoSession(t *testing.T) {
	for _, a := range askers(t) {
		c := a.device(5, 4, 6)
		w := a.writer(4, c, 1)
		x := a.writes(w, 5, 1, "text")
		plain := x
		plain.Letter.Header.First, plain.Letter.Header.Agree, plain.Letter.Header.Signer, plain.Letter.Header.Base, plain.Letter.Header.Id = false, api.Key{}, api.Key{}, api.Key{}, 0
		others := x
		others.Letter.From = 6
		number := x
		number.Letter.Header.Session[31]++
		for i, y := range []api.Item{plain, others, number} {
			got, heard := a.takes(c, y)
			if len(heard) > 0 {
				t.Fatalf("the letter %d is heard", i)
			}
			got.Since, got.Seq = 0, 0
			a.left("a letter of no session", got, c)
		}
		// In another peer's session nothing is opened, either.
		c, _ = a.takes(c, x)
		y := a.writes(w, 5, 2, "more")
		y.Letter.From = 6
		got, heard := a.takes(c, y)
		if len(heard) > 0 {
			t.Fatal("a letter in another's session is heard")
		}
		got.Since, got.Seq = c.Since, c.Seq
		a.left("a letter in another's session", got, c)
	}
}

// Of another one, by what keys ever, nothing is heard under a peer's number.
func TestWhoWritesAsAPeer(t *testing.T) {
	for _, a := range askers(t) {
		c := a.device(5, 4, 6)
		right := a.writes(a.writer(4, c, 1), 5, 1, "text")
		wrong := a.writes(a.writer(6, c, 1), 5, 1, "text")
		wrong.Letter.From = 4
		l := []api.Item{wrong}
		for _, change := range []func(h *api.Header){
			func(h *api.Header) { h.Agree[0]++ },
			func(h *api.Header) { h.Signer[31]++ },
			func(h *api.Header) { h.Agree, h.Signer = h.Signer, h.Agree },
			func(h *api.Header) { h.Agree = wrong.Letter.Header.Agree },
			func(h *api.Header) { h.Signer = wrong.Letter.Header.Signer },
			func(h *api.Header) { h.Agree, h.Signer = wrong.Letter.Header.Agree, wrong.Letter.Header.Signer },
			func(h *api.Header) { h.Base[3]++ },
			func(h *api.Header) { h.Id = 2 },
			func(h *api.Header) { h.Id = 9 },
			func(h *api.Header) { h.Ratchet[3]++ },
			func(h *api.Header) { h.N = 3 },
			func(h *api.Header) { h.N = 300 },
			func(h *api.Header) { h.Prev = 3 },
		} {
			x := right
			change(&x.Letter.Header)
			l = append(l, x)
		}
		for i := range right.Letter.Body {
			if a.s.Terms() == nil || i < 8 {
				x := right
				x.Letter.Body = bytes.Clone(x.Letter.Body)
				x.Letter.Body[i]++
				l = append(l, x)
			}
		}
		for i, x := range l {
			got, heard := a.takes(c, x)
			if len(heard) > 0 {
				t.Fatalf("the letter %d is heard: %v", i, heard)
			}
			got.Since, got.Seq = 0, 0
			a.left("a letter of another", got, c)
		}
		if _, heard := a.takes(c, right); len(heard) != 1 {
			t.Fatal("the right letter isn't heard")
		}
	}
}

// There are at most four sessions with a peer; each goes on.
func TestManySessions(t *testing.T) {
	for _, a := range askers(t) {
		c := a.device(5, 4)
		c.Account = owned(5, 1, 2, 3, 4, 5, 6, 7)
		var l []*writer
		for n := range uint16(6) {
			w := a.writer(4, c, n+1)
			got, heard := a.takes(c, a.writes(w, 5, n+1, "text"))
			c = got
			if n >= 4 {
				if len(heard) > 0 || len(c.Peers[0].Sessions) != 4 || len(c.Account.Left) != 3 {
					t.Fatalf("there is the session %d, and left are %v", n, c.Account.Left)
				}
				continue
			}
			l = append(l, w)
			a.heard(heard, 4, n+1, "text")
			if p := c.Peers[0]; len(p.Sessions) != int(n+1) || p.Sessions[n].Id != w.x.Id {
				t.Fatalf("the sessions are %v", p.Sessions)
			}
		}
		for i := range l {
			n := c.Peers[0].Last + 1
			var heard []api.Heard
			c, heard = a.takes(c, a.writes(l[3-i], 5, n, "more"))
			a.heard(heard, 4, n, "more")
		}
		// Of a device that has more, too, none is put behind.
		c.Peers[0].Sessions = append(c.Peers[0].Sessions, c.Peers[0].Sessions[0])
		_, heard := a.takes(c, a.writes(a.writer(4, c, 5), 5, c.Peers[0].Last+1, "text"))
		a.heard(heard, 4, 1)
	}
}

// Of two sessions of one number it is the first.
func TestTheFirstOfTwoSessions(t *testing.T) {
	for _, a := range askers(t) {
		c := a.device(5, 4)
		w := a.writer(4, c, 1)
		c, _ = a.takes(c, a.writes(w, 5, 1, "one"))
		x := c.Peers[0].Sessions[0]
		bad := x
		bad.Recv.Key[0]++
		c.Peers[0].Sessions = []api.Session{bad, x}
		two := a.writes(w, 5, 2, "two")
		if _, heard := a.takes(c, two); len(heard) > 0 {
			t.Error("it is opened by the second one")
		}
		c.Peers[0].Sessions = []api.Session{{Id: api.Key{1}}, x, bad}
		got, heard := a.takes(c, two)
		a.heard(heard, 4, 2, "two")
		if l := got.Peers[0].Sessions; sameSession(l[1], x) || !sameSession(l[2], bad) || !sameSession(l[0], api.Session{Id: api.Key{1}}) {
			t.Error("another one goes on")
		}
	}
}

// What is opened and isn't a number and at most 64 bytes isn't heard; but the session goes on.
func TestWhatIsInALetter(t *testing.T) {
	for _, a := range askers(t) {
		for _, c := range []struct {
			text []byte
			want string
			ok   bool
		}{
			{joined(two(1), []byte("text")), "text", true},
			{joined(two(1), nil), "", true},
			{joined(two(1), make([]byte, 64)), string(make([]byte, 64)), true},
			{joined(two(1), make([]byte, 65)), "", false},
			{joined(two(1), make([]byte, 1000)), "", false},
			{nil, "", false},
			{[]byte("text"), "", false},
			{joined(), "", false},
			{joined(two(1)), "", false},
			{joined(nil, []byte("text")), "", false},
			{joined([]byte{1}, []byte("text")), "", false},
			{joined([]byte{0, 0, 1}, []byte("text")), "", false},
			{joined([]byte{0, 1, 0}, []byte("text")), "", false},
			{joined([]byte("text"), two(1)), "", false},
			{joined(two(1), []byte("text"), nil), "", false},
			{append(joined(two(1), []byte("text")), 0), "", false},
			{joined(two(1), []byte("text"))[:10], "", false},
			{append([]byte{2, 0, 2, 0, 1, 0, 5}, "text"...), "", false},
			{joined(two(0), []byte("text")), "", false},
			{joined(two(256), []byte("text")), "", false},
		} {
			x := a.device(5, 4)
			for _, begun := range []bool{false, true} {
				w := a.writer(4, x, 1)
				y := x
				if begun {
					y, _ = a.takes(x, a.seals(w, 5, nil))
				}
				got, heard := a.takes(y, a.seals(w, 5, c.text))
				if c.ok {
					a.heard(heard, 4, 1, c.want)
				} else if len(heard) > 0 || got.Peers[0].Last != 0 {
					t.Fatalf("of %x is heard %v", c.text, heard)
				}
				if p := got.Peers[0]; len(p.Sessions) != 1 || p.Sessions[0].Recv.N != w.x.Send.N || len(got.Account.Left) != 2 {
					t.Fatalf("behind %x: %v", c.text, got)
				}
			}
		}
	}
}

// numbered is a device whose session with 4 was begun, of which so many were heard, and these are held.
func (a asker) numbered(last uint16, held ...uint16) (api.Client, *writer) {
	a.Helper()
	c := a.device(5, 4)
	w := a.writer(4, c, 1)
	c, _ = a.takes(c, a.seals(w, 5, nil))
	c.Peers[0].Last = last
	for _, n := range held {
		c.Peers[0].Held = append(c.Peers[0].Held, api.Said{N: n, Body: []byte(fmt.Sprint("held ", n))})
	}
	return c, w
}

// Which things are heard, held, passed over.
func TestNumbersInLetters(t *testing.T) {
	a := termer(t)
	for _, c := range []struct {
		last  uint16
		held  []uint16
		n     uint16
		heard []uint16
		left  []uint16 // what is held then
	}{
		{0, nil, 1, []uint16{1}, nil},
		{0, nil, 0, nil, nil},
		{0, nil, 2, nil, []uint16{2}},
		{0, nil, 65535, nil, []uint16{65535}},
		{7, nil, 7, nil, nil},
		{7, nil, 6, nil, nil},
		{7, nil, 0, nil, nil},
		{7, nil, 8, []uint16{8}, nil},
		{7, nil, 9, nil, []uint16{9}},
		{255, nil, 256, []uint16{256}, nil},
		{256, nil, 255, nil, nil},
		{65534, nil, 65535, []uint16{65535}, nil},
		{65535, nil, 0, nil, nil},
		{65535, nil, 1, nil, nil},
		{65535, nil, 65535, nil, nil},
		{65534, nil, 0, nil, nil},
		{0, []uint16{2}, 1, []uint16{1, 2}, nil},
		{0, []uint16{3}, 1, []uint16{1}, []uint16{3}},
		{0, []uint16{3, 2}, 1, []uint16{1, 2, 3}, nil},
		{0, []uint16{4, 2, 3, 6}, 1, []uint16{1, 2, 3, 4}, []uint16{6}},
		{0, []uint16{6, 4, 2, 3}, 1, []uint16{1, 2, 3, 4}, []uint16{6}},
		{0, []uint16{2, 3, 4, 5, 6, 7, 8, 9}, 1, []uint16{1, 2, 3, 4, 5, 6, 7, 8, 9}, nil},
		{0, []uint16{9, 8, 7, 6, 5, 4, 3, 2}, 1, []uint16{1, 2, 3, 4, 5, 6, 7, 8, 9}, nil},
		{0, []uint16{2, 3}, 2, nil, []uint16{2, 3}},
		{0, []uint16{2, 3}, 3, nil, []uint16{2, 3}},
		{0, []uint16{2, 3}, 4, nil, []uint16{2, 3, 4}},
		{0, []uint16{4, 3}, 2, nil, []uint16{4, 3, 2}},
		{0, []uint16{2, 3, 4, 5, 6, 7, 8}, 9, nil, []uint16{2, 3, 4, 5, 6, 7, 8, 9}},
		{0, []uint16{2, 3, 4, 5, 6, 7, 8, 9}, 10, nil, []uint16{2, 3, 4, 5, 6, 7, 8, 9}},
		{0, []uint16{3, 4, 5, 6, 7, 8, 9, 10}, 2, nil, []uint16{3, 4, 5, 6, 7, 8, 9, 10}},
		{0, []uint16{3, 4, 5, 6, 7, 8, 9, 10}, 1, []uint16{1}, []uint16{3, 4, 5, 6, 7, 8, 9, 10}},
		{65533, []uint16{65535}, 65534, []uint16{65534, 65535}, nil},
		// What no device comes to: what is held was heard already, stands twice, or is the next one.
		{5, []uint16{0, 3, 5, 6}, 6, []uint16{6}, []uint16{0, 3, 5, 6}},
		{5, []uint16{7, 7, 8}, 6, []uint16{6, 7, 8}, []uint16{7}},
		{5, []uint16{6, 7}, 7, nil, []uint16{6, 7}},
		{5, []uint16{6, 7}, 8, nil, []uint16{6, 7, 8}},
		{65535, []uint16{0, 1}, 0, nil, []uint16{0, 1}},
		{65534, []uint16{0, 1}, 65535, []uint16{65535}, []uint16{0, 1}},
		{0, []uint16{20, 21, 22, 23, 24, 25, 26, 27, 28, 29}, 30, nil, []uint16{20, 21, 22, 23, 24, 25, 26, 27, 28, 29}},
	} {
		x, w := a.numbered(c.last, c.held...)
		got, heard := a.takes(x, a.writes(w, 5, c.n, fmt.Sprint("held ", c.n)))
		var l, left []uint16
		for _, y := range heard {
			if l = append(l, y.Said.N); y.From != 4 || string(y.Said.Body) != fmt.Sprint("held ", y.Said.N) {
				t.Fatal(y)
			}
		}
		for _, y := range got.Peers[0].Held {
			if left = append(left, y.N); string(y.Body) != fmt.Sprint("held ", y.N) {
				t.Fatal(y)
			}
		}
		last := c.last
		if len(c.heard) > 0 {
			last = c.heard[len(c.heard)-1]
		}
		if !slices.Equal(l, c.heard) || !slices.Equal(left, c.left) || got.Peers[0].Last != last {
			t.Errorf("behind %d, with %d, comes %d: heard are %d up to %d, held %d", c.last, c.held, c.n, l, got.Peers[0].Last, left)
		}
	}
}

// All numbers, beside some that were heard last.
func TestAllNumbersInLetters(t *testing.T) {
	a := termer(t)
	for _, last := range edges() {
		for _, n := range edges() {
			c, w := a.numbered(last)
			got, heard := a.takes(c, a.writes(w, 5, n, "x"))
			p := got.Peers[0]
			switch {
			case int(n) == int(last)+1:
				a.heard(heard, 4, n, "x")
			case n > last:
				a.heard(heard, 4, n)
				if len(p.Held) != 1 || p.Held[0].N != n {
					t.Fatalf("behind %d comes %d: held is %v", last, n, p.Held)
				}
			default:
				if len(heard)+len(p.Held) > 0 || p.Last != last {
					t.Fatalf("behind %d comes %d: %v", last, n, heard)
				}
			}
		}
	}
}

// What one peer said isn't held against another's numbers.
func TestTwoPeersAtOnce(t *testing.T) {
	for _, a := range askers(t) {
		c := a.device(5, 4, 6)
		v, w := a.writer(4, c, 1), a.writer(6, c, 2)
		v2, w1 := a.writes(v, 5, 2, "four, 2"), a.writes(w, 5, 1, "six, 1")
		v1, w2 := a.writes(v, 5, 1, "four, 1"), a.writes(w, 5, 2, "six, 2")
		c, heard := a.takes(c, v2, w1, v1, w2)
		if len(heard) != 4 {
			t.Fatal(heard)
		}
		a.heard(heard[:1], 6, 1, "six, 1")
		a.heard(heard[1:3], 4, 1, "four, 1", "four, 2")
		a.heard(heard[3:], 6, 2, "six, 2")
		// Of three one-time keys there is one left, so there come four more.
		if l := c.Account.Left; len(l) != 5 || l[0].Id != 3 || l[1].Id != 4 || l[4].Id != 7 || c.Account.Next != 8 {
			t.Errorf("there are left %v", l)
		}
	}
}

// A key that was asked for begins a session, by draws of the item's place.
func TestGive(t *testing.T) {
	for _, a := range askers(t) {
		for place := range 4 {
			c := a.says(a.device(5, 3, 4), 4, "text")
			c.Peers[1].Asked, c.Peers[0].Asked = true, true
			var l []api.Item
			for range place {
				l = append(l, none(9, 9))
			}
			b := a.bundles(4, 7)[1]
			got, _ := a.takes(c, append(l, give(5, b))...)
			p := got.Peers[1]
			e, d := run(60), run(60)
			e[31], d[31] = byte(16+4*place), byte(17+4*place)
			x := both(a, func(s suite.Suite) api.Session {
				x, e := account.Begin(s, c.Account, b, e, d)
				a.is("Begin", e, api.OK)
				return x
			})
			if p.Asked || len(p.Sessions) != 1 || !sameSession(p.Sessions[0], x) || !got.Peers[0].Asked {
				t.Fatalf("behind a key at the place %d: %v", place, p)
			}
			if base := both(a, func(s suite.Suite) api.Key { return s.Public(s.Fresh(e)) }); p.Sessions[0].Base != base || p.Sessions[0].Once != 7 {
				t.Errorf("at the place %d the session is %v", place, p.Sessions[0])
			}
			if _, y := a.ticked(got); y.Kind != api.CallPost || y.Letter.Header.Session != x.Id {
				t.Errorf("then comes %v", y)
			}
		}
	}
}

// Keys by which nothing is begun; but what was asked for is answered.
func TestGiveOfWrongKeys(t *testing.T) {
	for _, a := range askers(t) {
		right := a.bundles(4, 7)[1]
		fallback, other := a.bundles(4)[0], a.bundles(6, 7)[1]
		other.Device = 4
		signed := func(b api.Bundle) api.Bundle {
			b.Sig = both(a, func(s suite.Suite) api.Sig { return s.Sign(run(124), wire.BundleText(b)) })
			return b
		}
		low := right
		low.Once = api.Key{1}
		for i, c := range []struct {
			b    api.Bundle
			sets bool
		}{
			{right, true},
			{fallback, true},
			{signed(right), true},
			{signed(low), a.s.Terms() != nil},
			{other, false},
			{api.Bundle{Device: 4}, false},
			{bundled(right, func(b *api.Bundle) { b.Id++ }), false},
			{bundled(right, func(b *api.Bundle) { b.Once[0]++ }), false},
			{bundled(right, func(b *api.Bundle) { b.Agree[0]++ }), false},
			{bundled(right, func(b *api.Bundle) { b.Signer[0]++ }), false},
			{signed(bundled(right, func(b *api.Bundle) { b.Agree[0]++ })), false},
			{signed(bundled(right, func(b *api.Bundle) { b.Agree = other.Agree })), false},
			{bundled(right, func(b *api.Bundle) { b.Signer = other.Signer }), false},
			{bundled(right, func(b *api.Bundle) { b.Sig[0]++ }), false},
			{bundled(right, func(b *api.Bundle) { b.Sig[63]++ }), false},
		} {
			x := a.device(5, 4)
			x.Peers[0].Asked = true
			got, _ := a.takes(x, give(5, c.b))
			if p := got.Peers[0]; p.Asked || len(p.Sessions) == 1 != c.sets {
				t.Errorf("behind the key %d: %v", i, p)
			}
			// It doesn't matter whether it was asked for.
			x.Peers[0].Asked = false
			got, _ = a.takes(x, give(5, c.b))
			if p := got.Peers[0]; p.Asked || len(p.Sessions) == 1 != c.sets {
				t.Errorf("behind the key %d that nobody asked for: %v", i, p)
			}
			// Where there is a session there is no need of one.
			y := a.writer(4, a.device(5), 2).x
			x.Peers[0].Sessions, x.Peers[0].Asked = []api.Session{y}, true
			got, _ = a.takes(x, give(5, c.b))
			if p := got.Peers[0]; p.Asked || len(p.Sessions) != 1 || !sameSession(p.Sessions[0], y) {
				t.Errorf("behind the key %d beside a session: %v", i, p)
			}
		}
	}
}

func bundled(b api.Bundle, change func(b *api.Bundle)) api.Bundle {
	change(&b)
	return b
}

// Items are taken one behind the other: of two keys the first begins a session; behind a letter of theirs there is one.
func TestItemsInOrder(t *testing.T) {
	for _, a := range askers(t) {
		c := a.device(5, 4)
		l := a.bundles(4, 7, 8)
		got, _ := a.takes(c, none(5, 4), give(5, l[2]), give(5, l[1]))
		if x := got.Peers[0].Sessions; len(x) != 1 || x[0].Once != 8 {
			t.Fatalf("the sessions are %v", x)
		}
		w := a.writer(4, c, 1)
		letter := a.writes(w, 5, 1, "text")
		got, _ = a.takes(c, letter, give(5, l[1]))
		if x := got.Peers[0].Sessions; len(x) != 1 || x[0].Id != w.x.Id {
			t.Fatalf("the sessions are %v", x)
		}
		// Who is written to while beginning has two sessions, and answers by the lesser number.
		got, heard := a.takes(c, give(5, l[1]), letter)
		a.heard(heard, 4, 1, "text")
		x := got.Peers[0].Sessions
		if len(x) != 2 || x[1].Id != w.x.Id || !x[0].First {
			t.Fatalf("the sessions are %v", x)
		}
		least := x[0].Id
		if bytes.Compare(x[1].Id[:], least[:]) < 0 {
			least = x[1].Id
		}
		if _, y := a.ticked(a.says(got, 4, "answer")); y.Letter.Header.Session != least {
			t.Errorf("the letter is %v", y.Letter)
		}
	}
}

// Where fewer than two one-time keys are left there come four more, behind all items.
func TestMore(t *testing.T) {
	for _, a := range askers(t) {
		for left := range 9 {
			for _, next := range []uint16{9, 65530, 65531, 65532, 0, 1, 65535} {
				if a.s.Terms() == nil && next > 9 && left != 1 {
					continue
				}
				for _, none := range []bool{false, true} {
					var ids []uint16
					for i := range left {
						ids = append(ids, uint16(i+1))
					}
					c := a.device(5, 4)
					c.Account = owned(5, ids...)
					c.Account.Next = next
					var l []api.Item
					want := left
					if !none && left > 0 {
						l, want = append(l, a.writes(a.writer(4, c, 1), 5, 1, "text")), left-1
					}
					more := want < 2 && int(next)+3 <= 65534
					got, _ := a.takes(c, l...)
					x := got.Account
					if more {
						want += 4
						for i := range 4 {
							d := run(60)
							d[31] = byte(200 + i)
							secret := both(a, func(s suite.Suite) api.Key { return s.Fresh(d) })
							if y := x.Left[want-4+i]; y.Id != next+uint16(i) || y.Secret != secret {
								t.Fatalf("the key %d more is %v", i, y)
							}
						}
						next += 4
					}
					if len(x.Left) != want || x.Next != next {
						t.Fatalf("of %d, with %d items, there are left %d, next is %d", left, len(l), len(x.Left), x.Next)
					}
				}
			}
		}
	}
}

// Where the table is nearly full.
func TestItemsWithLittleRoom(t *testing.T) {
	for room := range 44 {
		a := termer(t)
		c := a.device(5, 3, 4, 6)
		c.Account = owned(5, 1, 2)
		w := a.writer(4, c, 1)
		l := []api.Item{a.writes(w, 5, 1, "one"), give(5, a.bundles(6, 7)[1]), a.writes(w, 5, 2, "two"), give(5, a.bundles(3, 7)[1])}
		c = a.syncing(c)
		b := a.replies(c, api.OK, l[room%4:]...)
		a.fill(room)
		if _, _, e := a.handle(c, b, run(1)); e != api.OK {
			t.Fatal(e)
		}
	}
}
