package relay_test

import (
	"bytes"
	"slices"
	"strings"
	"testing"

	"missive/api"
	"missive/disk"
	"missive/relay"
	"missive/store"
	"missive/wire"
)

// P22.4

// whole is a server that has of everything something.
func (a asker) whole() api.Relay {
	a.Helper()
	d := drawer(3)
	r := a.relay(2, 1)
	r.Clock, r.Chain, r.Secret = 0x01020304, a.chain(2, 3, 0, 1), secret(2, 3)
	r = a.turning(r, 3)
	r.Cache.Highest, r.Last = [4]byte{1, 2, 3, 4}, [4]uint16{0x0506, 0, 0x0708, 0xffff}
	r.Homes[0].Seq, r.Homes[0].Reply, r.Homes[0].Shelf = 0x090a, []byte("reply"), a.shelf(8, 1, 2, 300)
	r.Homes[1].Inbox = api.Queue{Items: d.items(8), Id: 0x0b0c}
	r.Homes[3].Seq, r.Homes[3].Reply = 0xffff, []byte{0}
	r.Homes[3].Inbox = api.Queue{Items: d.items(2), Id: 2, Sent: 1, Wait: 2, Back: 3}
	r.Queues[0] = api.Queue{Items: d.items(5), Id: 3, Sent: 4, Wait: 8, Back: 16}
	r.Queues[3], r.Acks[1], r.Acks[3] = filled(1, 9), []byte("ack"), []byte{7, 8}
	return r
}

func namesOf(l []api.Change) string {
	var names []string
	for _, c := range l {
		names = append(names, c.Name)
	}
	return strings.Join(names, " ")
}

// valued is the value of the row of that name.
func valued(t *testing.T, l []api.Change, name string) []byte {
	t.Helper()
	at := slices.IndexFunc(l, func(c api.Change) bool { return c.Name == name })
	if at < 0 {
		t.Fatalf("there is no row %s", name)
	}
	return l[at].Value
}

// The bytes of the rows, put down by hand.
func TestRowsByHand(t *testing.T) {
	for _, a := range askers(t) {
		r := a.whole()
		l, ok := rows(t, r)
		if want := "a1 a3 b0 b1 b2 b3 d0 d1 d2 d3 i0h i10 i11 i1h i2h i30 i3h k q00 q01 q0h q1h q2h q30 q3h r0 r3 s"; !ok || namesOf(l) != want {
			t.Fatalf("Rows are %s", namesOf(l))
		}
		turn, _ := wire.PutObject(r.Turn)
		chain := []byte{3}
		for _, x := range r.Chain {
			b, _ := wire.PutObject(x)
			chain = append(append(chain, byte(len(b)>>8), byte(len(b))), b...)
		}
		s := []byte{11, 0, 1, 2, 0, 32}
		s = append(append(s, r.Secret[:]...), 0, 32)
		s = append(append(s, r.First[:]...), 0, 4, 1, 2, 3, 4, 0, 1, 1, 0, 1, 1, 0, 32)
		s = append(append(s, r.TurnSecret[:]...), byte(len(turn)>>8), byte(len(turn)))
		s = append(append(s, turn...), 0, 4, 1, 2, 3, 4, 0, 8, 5, 6, 0, 0, 7, 8, 255, 255, byte(len(chain)>>8), byte(len(chain)))
		if got := valued(t, l, "s"); !bytes.Equal(got, append(s, chain...)) {
			t.Errorf("the row s is %x", got)
		}
		k := []byte{4}
		for _, key := range r.Cache.First {
			k = append(append(k, 0, 32), key[:]...)
		}
		if got := valued(t, l, "k"); !bytes.Equal(got, k) {
			t.Errorf("the row k is %x", got)
		}
		h := append(append([]byte{3, 0, 32}, r.Homes[0].Agree[:]...), 0, 32)
		if got := valued(t, l, "d0"); !bytes.Equal(got, append(append(h, r.Homes[0].Signer[:]...), 0, 2, 9, 10)) {
			t.Errorf("the row d0 is %x", got)
		}
		for name, want := range map[string]string{"r0": "reply", "r3": "\x00", "a1": "ack", "a3": "\x07\x08", "b3": "\x02\x00\x02\x00\x00\x00\x00", "i1h": "\x05\x00\x02\x0b\x0c\x00\x01\x00\x00\x01\x00\x00\x01\x00\x00\x01\x08"} {
			if got := valued(t, l, name); string(got) != want {
				t.Errorf("the row %s is %x, want %x", name, got, want)
			}
		}
		if q, ok := load(t, l); !ok || differs(q, r) != "" {
			t.Errorf("Load of Rows: %t, %s", ok, differs(q, r))
		}
	}
}

// Of a server at which nothing was done there are few rows.
func TestRowsOfANewServer(t *testing.T) {
	for _, a := range askers(t) {
		for _, r := range []api.Relay{a.relay(1, 0), {}, {Server: 255}} {
			l, ok := rows(t, r)
			if want := "b0 b1 b2 b3 d0 d1 d2 d3 i0h i1h i2h i3h k q0h q1h q2h q3h s"; !ok || namesOf(l) != want {
				t.Fatalf("Rows are %s", namesOf(l))
			}
			if q, ok := load(t, l); !ok || differs(q, r) != "" {
				t.Errorf("Load of Rows: %t, %s", ok, differs(q, r))
			}
		}
	}
}

func TestRowsOfDrawnServers(t *testing.T) {
	d := drawer(5)
	for range 300 {
		r := d.relay()
		l, ok := rows(t, r)
		if !ok {
			t.Fatalf("Rows of %v", r)
		}
		if q, ok := load(t, l); !ok || differs(q, r) != "" {
			t.Fatalf("Load of Rows: %t, %s", ok, differs(q, r))
		}
	}
}

// What can't be written, each by itself.
func TestRowsThatCannotBe(t *testing.T) {
	a := termer(t)
	r := a.whole()
	d := drawer(6)
	bad := api.Item{Kind: 7}
	for i, c := range []struct {
		ok     bool
		change func(r *api.Relay)
	}{
		{true, func(r *api.Relay) {}},
		{true, func(r *api.Relay) { r.Chain = a.chain(2, 4) }},
		{true, func(r *api.Relay) { r.Chain[2] = d.object(4) }},
		{true, func(r *api.Relay) { r.Turn = d.object(4) }},
		{true, func(r *api.Relay) { r.Turn = api.Object{} }},
		{true, func(r *api.Relay) { r.TurnSecret = api.Key{} }},
		{true, func(r *api.Relay) { r.Turning, r.Turn, r.TurnSecret = false, api.Object{}, api.Key{} }},
		{true, func(r *api.Relay) {
			r.Turning, r.Turn, r.TurnSecret = false, api.Object{Vouches: []api.Vouch{}}, api.Key{}
		}},
		{true, func(r *api.Relay) { r.Homes[2].Reply = make([]byte, 4000) }},
		{true, func(r *api.Relay) { r.Acks[2] = make([]byte, 4000) }},
		{true, func(r *api.Relay) { r.Queues[2] = filled(8, 65535) }},
		{true, func(r *api.Relay) { r.Homes[2].Inbox = api.Queue{Items: []api.Item{long(1, 2, 900)}} }},
		{false, func(r *api.Relay) { r.Chain = a.chain(2, 5) }},
		{false, func(r *api.Relay) { r.Chain[0] = d.object(5) }},
		{false, func(r *api.Relay) { r.Chain[2] = d.object(5) }},
		{false, func(r *api.Relay) { r.Turn = d.object(5) }},
		{false, func(r *api.Relay) { r.Turn, r.Chain = d.object(5), a.chain(2, 5) }},
		{false, func(r *api.Relay) { r.Turning, r.Chain[1] = false, d.object(5) }},
		{false, func(r *api.Relay) { r.Turning = false }},
		{false, func(r *api.Relay) { r.Turning, r.Turn = false, api.Object{} }},
		{false, func(r *api.Relay) { r.Turning, r.TurnSecret = false, api.Key{} }},
		{false, func(r *api.Relay) { r.Turning, r.Turn, r.TurnSecret = false, api.Object{Server: 1}, api.Key{} }},
		{false, func(r *api.Relay) { r.Turning, r.Turn, r.TurnSecret = false, api.Object{N: 1}, api.Key{} }},
		{false, func(r *api.Relay) {
			r.Turning, r.Turn, r.TurnSecret = false, api.Object{Key: api.Key{31: 1}}, api.Key{}
		}},
		{false, func(r *api.Relay) { r.Turning, r.Turn, r.TurnSecret = false, api.Object{From: 1}, api.Key{} }},
		{false, func(r *api.Relay) { r.Turning, r.Turn, r.TurnSecret = false, api.Object{Until: 1 << 24}, api.Key{} }},
		{false, func(r *api.Relay) {
			r.Turning, r.Turn, r.TurnSecret = false, api.Object{Sig: api.Sig{63: 1}}, api.Key{}
		}},
		{false, func(r *api.Relay) {
			r.Turning, r.Turn, r.TurnSecret = false, api.Object{Vouches: []api.Vouch{{}}}, api.Key{}
		}},
		{false, func(r *api.Relay) {
			r.Turning, r.Turn, r.TurnSecret = false, api.Object{Vouches: make([]api.Vouch, 5)}, api.Key{}
		}},
		{false, func(r *api.Relay) { r.Homes[0].Reply = make([]byte, 4001) }},
		{false, func(r *api.Relay) { r.Homes[3].Reply = make([]byte, 70000) }},
		{false, func(r *api.Relay) { r.Acks[0] = make([]byte, 4001) }},
		{false, func(r *api.Relay) { r.Acks[3] = make([]byte, 70000) }},
		{false, func(r *api.Relay) { r.Queues[0] = filled(9, 0) }},
		{false, func(r *api.Relay) { r.Queues[1].Sent = 1 }},
		{false, func(r *api.Relay) { r.Queues[1].Sent = -1 }},
		{false, func(r *api.Relay) { r.Queues[2].Items = []api.Item{bad} }},
		{false, func(r *api.Relay) { r.Queues[3].Items = []api.Item{long(1, 2, 901)} }},
		{false, func(r *api.Relay) { r.Homes[0].Inbox = filled(9, 9) }},
		{false, func(r *api.Relay) { r.Homes[1].Inbox.Sent = 5 }},
		{false, func(r *api.Relay) { r.Homes[2].Inbox.Items = []api.Item{bad} }},
		{false, func(r *api.Relay) { r.Homes[3].Inbox.Items = []api.Item{long(1, 2, 901)} }},
		{false, func(r *api.Relay) { r.Homes[0].Shelf = a.shelf(8, 1, 2, 3, 4, 5, 6, 7, 8, 9) }},
		{false, func(r *api.Relay) { r.Homes[3].Shelf.Fallback.Id = 1 }},
	} {
		q := with(r, c.change)
		l, ok := rows(t, q)
		if ok != c.ok || !ok && len(l) > 0 {
			t.Errorf("Rows of the server %d: %t", i, ok)
		}
		if again, good := load(t, l); good != ok || ok && differs(again, q) != "" {
			t.Errorf("Load of the rows %d: %t", i, good)
		}
	}
}

// loads asks that the rows are a server's just if right.
func loads(t *testing.T, what string, l []api.Change, right bool) {
	t.Helper()
	if r, ok := load(t, l); ok != right || !ok && differs(r, api.Relay{}) != "" {
		t.Errorf("Load, %s: %t", what, ok)
	}
}

// Rows that are less, more, others, or in another order.
func TestLoadOfOtherRows(t *testing.T) {
	a := termer(t)
	l, _ := rows(t, a.whole())
	loads(t, "none", nil, false)
	for i, c := range l {
		less := slices.Delete(slices.Clone(l), i, i+1)
		// A reply, an acknowledgement may not be there.
		loads(t, "without "+c.Name, less, strings.Contains("a1 a3 r0 r3", c.Name))
		loads(t, "two of "+c.Name, slices.Insert(slices.Clone(l), i, c), false)
		loads(t, c.Name+" once more behind all", append(slices.Clone(l), c), false)
		loads(t, "gone is "+c.Name, replaced(l, i, api.Change{Name: c.Name, Gone: true}), false)
		loads(t, "gone, with a value, is "+c.Name, replaced(l, i, api.Change{Name: c.Name, Value: c.Value, Gone: true}), false)
		loads(t, "empty is "+c.Name, replaced(l, i, api.Change{Name: c.Name}), false)
		for _, name := range []string{"", c.Name + "0", c.Name + " ", strings.ToUpper(c.Name), c.Name[:len(c.Name)-1], "x" + c.Name, "zz"} {
			loads(t, c.Name+" as "+name, replaced(l, i, api.Change{Name: name, Value: c.Value}), false)
			loads(t, c.Name+" as "+name+", gone", replaced(l, i, api.Change{Name: name, Value: c.Value, Gone: true}), false)
			loads(t, "beside "+c.Name+" "+name, slices.Insert(slices.Clone(l), i, api.Change{Name: name, Value: c.Value}), false)
		}
		if i > 0 {
			loads(t, c.Name+" ahead of its place", replaced(replaced(l, i, l[i-1]), i-1, c), false)
		}
	}
	slices.Reverse(l)
	loads(t, "the other way round", l, false)
}

func replaced(l []api.Change, at int, c api.Change) []api.Change {
	l = slices.Clone(l)
	l[at] = c
	return l
}

// Rows of each name that there may be, beside those of a new server.
func TestLoadOfMoreRows(t *testing.T) {
	a := termer(t)
	l, _ := rows(t, a.relay(0, 0))
	for _, name := range append(names(), "a4", "b4", "d4", "i4h", "q4h", "r4", "r", "a", "t", "i0", "q00", "q01", "s0") {
		if slices.ContainsFunc(l, func(c api.Change) bool { return c.Name == name }) {
			continue
		}
		m := append(slices.Clone(l), api.Change{Name: name, Value: []byte("x")})
		slices.SortFunc(m, func(x, y api.Change) int { return strings.Compare(x.Name, y.Name) })
		loads(t, "with "+name, m, len(name) == 2 && (name[0] == 'a' || name[0] == 'r') && name[1] < '4')
	}
}

// Other bytes in a row: each byte another, cut off, put behind.
func TestLoadOfOtherBytes(t *testing.T) {
	a := termer(t)
	d := drawer(8)
	l, _ := rows(t, a.whole())
	for i, c := range l {
		with := func(b []byte) []api.Change { return replaced(l, i, api.Change{Name: c.Name, Value: b}) }
		free := strings.Contains("a1 a3 r0 r3", c.Name)
		step := 1 + len(c.Value)/20
		for at := 0; at < len(c.Value); at += step {
			for _, x := range []byte{c.Value[at] + 1, c.Value[at] - 1, 0, 1, 2, 255, d.byte()} {
				b := bytes.Clone(c.Value)
				b[at] = x
				load(t, with(b))
			}
			if at > 0 {
				loads(t, "cut off is "+c.Name, with(c.Value[:at]), free)
			}
		}
		for _, more := range []string{"\x00", "\x01", "\x00\x00", "\x00\x00\x00", string(c.Value)} {
			loads(t, "put behind is "+c.Name, with(slices.Concat(c.Value, []byte(more))), free)
		}
		loads(t, "ahead of it is "+c.Name, with(slices.Concat([]byte{0}, c.Value)), free)
		loads(t, "within another is "+c.Name, with(joined(c.Value)), free)
	}
	for _, size := range []int{4000, 4001, 70000} {
		at := slices.IndexFunc(l, func(c api.Change) bool { return c.Name == "r3" })
		loads(t, "a reply of many bytes", replaced(l, at, api.Change{Name: "r3", Value: make([]byte, size)}), size == 4000)
		loads(t, "an acknowledgement of many bytes", replaced(l, 1, api.Change{Name: "a3", Value: make([]byte, size)}), size == 4000)
	}
}

// Other pieces in the rows that are joined texts here: each piece another, more, fewer.
func TestLoadOfOtherPieces(t *testing.T) {
	a := termer(t)
	still := a.whole()
	still.Turning, still.Turn, still.TurnSecret = false, api.Object{}, api.Key{}
	empty, _ := wire.PutObject(api.Object{})
	for _, r := range []api.Relay{a.whole(), still, a.relay(0, 0)} {
		l, _ := rows(t, r)
		for i, c := range l {
			if c.Name != "s" && c.Name != "k" && c.Name[0] != 'd' {
				continue
			}
			pieces, _ := split(c.Value)
			with := func(l2 [][]byte) []api.Change { return replaced(l, i, api.Change{Name: c.Name, Value: joined(l2...)}) }
			for at, p := range pieces {
				other := func(q ...[]byte) [][]byte { return slices.Replace(slices.Clone(pieces), at, at+1, q...) }
				loads(t, "a piece less", with(other()), false)
				loads(t, "a piece twice", with(other(p, p)), false)
				for _, q := range [][]byte{nil, {0}, {1}, {2}, {0, 0}, {0, 1}, make([]byte, 4), make([]byte, 8), make([]byte, 32), empty, joined(), joined(nil), joined(empty), joined(empty, empty, empty, empty), joined(empty, empty, empty, empty, empty), slices.Concat(p, []byte{0}), slices.Concat([]byte{0}, p), make([]byte, 4096)} {
					load(t, with(other(q)))
					if len(q) > 0 {
						load(t, with(other(q[1:])))
					}
				}
				if len(p) > 0 {
					load(t, with(other(p[1:])))
					load(t, with(other(p[:len(p)-1])))
				}
			}
			loads(t, "a piece more", with(append(slices.Clone(pieces), nil)), false)
		}
	}
}

// What is kept in a store is the server again.
func TestRowsInAStore(t *testing.T) {
	for _, a := range askers(t) {
		r := a.whole()
		d := disk.New(2048)
		s, e := store.Open(d)
		a.is("Open", e, api.OK)
		for i := range 3 {
			l, _ := rows(t, r)
			a.is("Commit", s.Commit(l), api.OK)
			s, e = store.Open(d)
			a.is("Open", e, api.OK)
			q, ok := load(t, s.All())
			if !ok || differs(q, r) != "" {
				t.Fatalf("out of a store, %d: %t %s", i, ok, differs(q, r))
			}
			r = q
			r.Clock++
			r.Homes[2].Seq++
		}
	}
}

// The greatest server that there may be fits into a store.
func TestRowsOfTheGreatestServer(t *testing.T) {
	a := termer(t)
	d := drawer(9)
	r := a.relay(3, 3)
	r.Chain = []api.Object{d.object(4), d.object(4), d.object(4), d.object(4)}
	r.Turning, r.Turn, r.TurnSecret = true, d.object(4), d.key()
	for n := range 4 {
		r.Acks[n], r.Homes[n].Reply = d.text(4000), d.text(4000)
		r.Homes[n].Shelf = a.shelf(byte(12+n), 1, 2, 3, 4, 5, 6, 7, 8)
		for range 8 {
			r.Queues[n].Items = append(r.Queues[n].Items, long(1, 2, 900))
			r.Homes[n].Inbox.Items = append(r.Homes[n].Inbox.Items, long(3, 4, 900))
		}
	}
	l, ok := rows(t, r)
	if !ok || len(l) != 42 {
		t.Fatalf("there are %d rows", len(l))
	}
	for _, c := range l {
		if len(c.Value) > api.MaxValue || len(c.Name) > api.MaxName {
			t.Errorf("the row %s has %d bytes", c.Name, len(c.Value))
		}
	}
	s, e := store.Open(disk.New(4096))
	a.is("Open", e, api.OK)
	a.is("Commit", s.Commit(l), api.OK)
	if q, ok := relay.Load(s.All()); !ok || differs(q, r) != "" {
		t.Errorf("out of a store: %t", ok)
	}
}
