package client_test

import (
	"bytes"
	"slices"
	"strings"
	"testing"

	"missive/api"
	"missive/client"
	"missive/disk"
	"missive/ratchet"
	"missive/store"
)

// P23.5

// whole is a device that has of everything something.
func (a asker) whole() api.Client {
	a.Helper()
	d := drawer(3)
	c := a.device(9, 4, 7, 10, 15)
	c.Seq, c.Since, c.Up, c.Synced, c.Known = 0x0102, 0x0304, 0x0506, true, false
	c.Cache.Need, c.Cache.Highest = 7, [4]byte{1, 2, 3, 4}
	c.Doing, c.Again = []byte("doing"), []byte{0}
	p := &c.Peers[1]
	p.Told, p.Last, p.Asked = 0x0708, 0x090a, true
	p.Out = []api.Said{{N: 0x0707, Body: []byte("one")}, {N: 0x0708}}
	p.Held = []api.Said{{N: 0x090c, Body: []byte("held")}}
	p.Sessions = []api.Session{d.session(3), d.session(0)}
	c.Peers[2].Sessions = []api.Session{d.session(16), d.session(1), d.session(2), d.session(0)}
	c.Peers[3].Out, c.Peers[3].Held = d.saids(8), d.saids(8)
	return c
}

func namesOf(l []api.Change) string {
	var names []string
	for _, c := range l {
		names = append(names, c.Name)
	}
	return strings.Join(names, " ")
}

// valued is the value of the row of that name.
func valued(t *testing.T, l []api.Change, name string) []byte {
	t.Helper()
	at := slices.IndexFunc(l, func(c api.Change) bool { return c.Name == name })
	if at < 0 {
		t.Fatalf("there is no row %s", name)
	}
	return l[at].Value
}

// The bytes of the rows, put down by hand.
func TestRowsByHand(t *testing.T) {
	for _, a := range askers(t) {
		c := a.whole()
		l, ok := rows(t, c)
		if want := "a c d g p04 p07 p07s0 p07s1 p10 p10s0 p10s1 p10s2 p10s3 p15"; !ok || namesOf(l) != want {
			t.Fatalf("Rows are %s", namesOf(l))
		}
		x := c.Account
		b := append([]byte{7, 0, 32}, x.Agree[:]...)
		b = append(append(b, 0, 32), x.Sign[:]...)
		b = append(append(b, 0, 32), x.Fallback.Secret[:]...)
		b = append(b, 0, 2, 0, 4)
		for i, y := range x.Left {
			b = append(append(b, 0, 34, 0, byte(i+1)), y.Secret[:]...)
		}
		if got := valued(t, l, "a"); !bytes.Equal(got, b) {
			t.Errorf("the row a is %x, want %x", got, b)
		}
		b = []byte{9, 0, 1, 9, 0, 2, 1, 2, 0, 1, 1, 0, 2, 3, 4, 0, 2, 5, 6, 0, 1, 0, 0, 1, 7, 0, 4, 1, 2, 3, 4, 0, 128}
		for _, k := range c.Cache.First {
			b = append(b, k[:]...)
		}
		if got := valued(t, l, "c"); !bytes.Equal(got, b) {
			t.Errorf("the row c is %x, want %x", got, b)
		}
		b = append([]byte{6, 0, 32}, c.Peers[1].Print[:]...)
		b = append(b, 0, 2, 7, 8, 0, 1, 1, 0, 2, 9, 10, 0, 12, 2, 0, 5, 7, 7, 'o', 'n', 'e', 0, 2, 7, 8, 0, 9, 1, 0, 6, 9, 12, 'h', 'e', 'l', 'd')
		if got := valued(t, l, "p07"); !bytes.Equal(got, b) {
			t.Errorf("the row p07 is %x, want %x", got, b)
		}
		b = append([]byte{6, 0, 32}, c.Peers[0].Print[:]...)
		if got := valued(t, l, "p04"); !bytes.Equal(got, append(b, 0, 2, 0, 0, 0, 1, 0, 0, 2, 0, 0, 0, 1, 0, 0, 1, 0)) {
			t.Errorf("the row p04 is %x", got)
		}
		for place, name := range []string{"p10s0", "p10s1", "p10s2", "p10s3"} {
			b, _ := ratchet.Pack(c.Peers[2].Sessions[place])
			if got := valued(t, l, name); !bytes.Equal(got, b) {
				t.Errorf("the row %s is %x", name, got)
			}
		}
		if d, g := valued(t, l, "d"), valued(t, l, "g"); string(d) != "doing" || string(g) != "\x00" {
			t.Errorf("the rows d and g are %q and %q", d, g)
		}
		if d, ok := load(t, l); !ok || differs(d, c) != "" {
			t.Errorf("Load of Rows: %t, %s", ok, differs(d, c))
		}
	}
}

// Of a device that trusts nobody there are two rows.
func TestRowsOfANewDevice(t *testing.T) {
	for _, a := range askers(t) {
		for _, c := range []api.Client{a.begin(1, owned(1), a.cache(0)), {}, {Device: 255}} {
			l, ok := rows(t, c)
			if !ok || namesOf(l) != "a c" {
				t.Fatalf("Rows are %s", namesOf(l))
			}
			if d, ok := load(t, l); !ok || differs(d, c) != "" {
				t.Errorf("Load of Rows: %t, %s", ok, differs(d, c))
			}
		}
	}
}

func TestRowsOfDrawnDevices(t *testing.T) {
	d := drawer(5)
	for range 400 {
		c := d.client()
		l, ok := rows(t, c)
		if !ok {
			t.Fatalf("Rows of %v", c)
		}
		if again, ok := load(t, l); !ok || differs(again, c) != "" {
			t.Fatalf("Load of Rows: %t, %s", ok, differs(again, c))
		}
	}
}

// Each flag, each number, each key by itself.
func TestRowsOfEachField(t *testing.T) {
	for i, change := range []func(c *api.Client){
		func(c *api.Client) { c.Synced = true },
		func(c *api.Client) { c.Known = true },
		func(c *api.Client) { c.Seq = 65535 },
		func(c *api.Client) { c.Since = 256 },
		func(c *api.Client) { c.Up = 255 },
		func(c *api.Client) { c.Cache.Need = 255 },
		func(c *api.Client) { c.Cache.Highest[0] = 9 },
		func(c *api.Client) { c.Cache.Highest[3] = 255 },
		func(c *api.Client) { c.Cache.First[0] = run(9) },
		func(c *api.Client) { c.Cache.First[3] = api.Key{31: 1} },
		func(c *api.Client) { c.Doing = []byte{0} },
		func(c *api.Client) { c.Again = []byte{0} },
		func(c *api.Client) { c.Peers = make([]api.Peer, 1) },
		func(c *api.Client) { c.Peers = []api.Peer{{Device: 15, Print: api.Key{31: 1}}} },
		func(c *api.Client) { c.Peers = []api.Peer{{Told: 65535}} },
		func(c *api.Client) { c.Peers = []api.Peer{{Last: 256}} },
		func(c *api.Client) { c.Peers = []api.Peer{{Asked: true}} },
		func(c *api.Client) { c.Peers = []api.Peer{{Out: make([]api.Said, 1)}} },
		func(c *api.Client) { c.Peers = []api.Peer{{Held: make([]api.Said, 8)}} },
		func(c *api.Client) { c.Peers = []api.Peer{{Sessions: make([]api.Session, 1)}, {Device: 1}} },
		func(c *api.Client) { c.Account.Left = make([]api.Once, 8) },
	} {
		c := api.Client{}
		change(&c)
		l, ok := rows(t, c)
		if again, good := load(t, l); !ok || !good || differs(again, c) != "" {
			t.Errorf("of the change %d: %t %t %s", i, ok, good, differs(again, c))
		}
	}
}

// What can't be written, each by itself.
func TestRowsThatCannotBe(t *testing.T) {
	a := termer(t)
	c := a.whole()
	d := drawer(6)
	peers := func(devices ...byte) func(c *api.Client) {
		return func(c *api.Client) {
			c.Peers = nil
			for _, device := range devices {
				c.Peers = append(c.Peers, api.Peer{Device: device})
			}
		}
	}
	said := func(sizes ...int) (l []api.Said) {
		for _, size := range sizes {
			l = append(l, api.Said{N: 3, Body: make([]byte, size)})
		}
		return l
	}
	for i, x := range []struct {
		ok     bool
		change func(c *api.Client)
	}{
		{true, func(c *api.Client) {}},
		{true, func(c *api.Client) { c.Doing, c.Again = make([]byte, 4000), make([]byte, 4000) }},
		{true, func(c *api.Client) { c.Account = d.account(8) }},
		{true, peers()},
		{true, peers(0, 1, 2, 3, 4, 5, 6, 7)},
		{true, peers(8, 9, 10, 11, 12, 13, 14, 15)},
		{true, peers(9)},
		{true, func(c *api.Client) { c.Peers[3].Sessions = c.Peers[2].Sessions }},
		{true, func(c *api.Client) { c.Peers[0].Out, c.Peers[0].Held = said(64, 0, 64), said(64) }},
		{false, func(c *api.Client) { c.Doing = make([]byte, 4001) }},
		{false, func(c *api.Client) { c.Again = make([]byte, 4001) }},
		{false, func(c *api.Client) { c.Doing = make([]byte, 70000) }},
		{false, func(c *api.Client) { c.Account = d.account(9) }},
		{false, func(c *api.Client) { c.Account.Fallback.Id = 1 }},
		{false, peers(0, 1, 2, 3, 4, 5, 6, 7, 8)},
		{false, peers(16)},
		{false, peers(255)},
		{false, peers(14, 15, 16)},
		{false, peers(15, 14)},
		{false, peers(1, 1)},
		{false, peers(0, 0)},
		{false, peers(1, 2, 3, 3)},
		{false, peers(1, 3, 2, 4)},
		{false, peers(3, 4, 1)},
		{false, func(c *api.Client) { c.Peers[0].Sessions = append(c.Peers[2].Sessions, d.session(0)) }},
		{false, func(c *api.Client) { c.Peers[1].Sessions[0] = d.session(17) }},
		{false, func(c *api.Client) { c.Peers[2].Sessions[3] = d.session(17) }},
		{false, func(c *api.Client) { c.Peers[0].Out = d.saids(9) }},
		{false, func(c *api.Client) { c.Peers[0].Held = d.saids(9) }},
		{false, func(c *api.Client) { c.Peers[0].Out = make([]api.Said, 65) }},
		{false, func(c *api.Client) { c.Peers[0].Held = make([]api.Said, 256+8) }},
		{false, func(c *api.Client) { c.Peers[0].Out, c.Peers[0].Held = d.saids(9), d.saids(9) }},
		{false, func(c *api.Client) { c.Peers[0].Out, c.Peers[0].Held = said(65), said(65) }},
		{false, func(c *api.Client) { c.Peers[0].Out, c.Peers[0].Held = said(65), d.saids(9) }},
		{false, func(c *api.Client) { c.Peers[1].Out = said(65) }},
		{false, func(c *api.Client) { c.Peers[3].Held = said(1, 2, 65) }},
		{false, func(c *api.Client) { c.Peers[0].Out = said(4095) }},
		{false, func(c *api.Client) { c.Peers[0].Held = said(70000) }},
	} {
		q := with(c, x.change)
		l, ok := rows(t, q)
		if ok != x.ok || !ok && len(l) > 0 {
			t.Errorf("Rows of the device %d: %t", i, ok)
		}
		if again, good := load(t, l); good != ok || ok && differs(again, q) != "" {
			t.Errorf("Load of the rows %d: %t", i, good)
		}
	}
}

// loads asks that the rows are a device's just if right.
func loads(t *testing.T, what string, l []api.Change, right bool) {
	t.Helper()
	if c, ok := load(t, l); ok != right || !ok && differs(c, api.Client{}) != "" {
		t.Errorf("Load, %s: %t", what, ok)
	}
}

// Rows that are less, more, others, or in another order.
func TestLoadOfOtherRows(t *testing.T) {
	a := termer(t)
	l, _ := rows(t, a.whole())
	loads(t, "none", nil, false)
	for i, c := range l {
		less := slices.Delete(slices.Clone(l), i, i+1)
		// A call, the last session of a peer, a peer without any may not be there.
		loads(t, "without "+c.Name, less, slices.Contains([]string{"d", "g", "p04", "p07s1", "p10s3", "p15"}, c.Name))
		loads(t, "two of "+c.Name, slices.Insert(slices.Clone(l), i, c), false)
		loads(t, c.Name+" once more behind all", append(slices.Clone(l), c), false)
		loads(t, "gone is "+c.Name, replaced(l, i, api.Change{Name: c.Name, Gone: true}), false)
		loads(t, "gone, with a value, is "+c.Name, replaced(l, i, api.Change{Name: c.Name, Value: c.Value, Gone: true}), false)
		loads(t, "empty is "+c.Name, replaced(l, i, api.Change{Name: c.Name}), false)
		for _, name := range []string{"", c.Name + "0", c.Name + " ", strings.ToUpper(c.Name), "x" + c.Name, "zz"} {
			loads(t, c.Name+" as "+name, replaced(l, i, api.Change{Name: name, Value: c.Value}), false)
			loads(t, c.Name+" as "+name+", gone", replaced(l, i, api.Change{Name: name, Value: c.Value, Gone: true}), false)
			loads(t, "beside "+c.Name+" "+name, slices.Insert(slices.Clone(l), i, api.Change{Name: name, Value: c.Value}), false)
		}
		if i > 0 {
			loads(t, c.Name+" ahead of its place", replaced(replaced(l, i, l[i-1]), i-1, c), false)
		}
	}
	slices.Reverse(l)
	loads(t, "the other way round", l, false)
}

func replaced(l []api.Change, at int, c api.Change) []api.Change {
	l = slices.Clone(l)
	l[at] = c
	return l
}

// Rows of each name that there may be, and of others, beside those of a device that has few.
func TestLoadOfMoreRows(t *testing.T) {
	a := termer(t)
	l, _ := rows(t, a.device(5, 4))
	session, _ := ratchet.Pack(api.Session{})
	peer := valued(t, l, "p04")
	others := []string{"p", "p4", "p004", "p16", "p99", "p0", "p1", "p-1", "p+4", "p04s", "p04s4", "p04s00", "p4s0", "p05s0", "s0", "e", "b", "da", "P04", "p0:", "p04t0"}
	for _, name := range append(names(), others...) {
		if slices.ContainsFunc(l, func(c api.Change) bool { return c.Name == name }) {
			continue
		}
		for _, value := range [][]byte{[]byte("x"), session, peer} {
			m := append(slices.Clone(l), api.Change{Name: name, Value: value})
			slices.SortFunc(m, func(x, y api.Change) int { return strings.Compare(x.Name, y.Name) })
			right := name == "d" || name == "g" || name == "p04s0" && bytes.Equal(value, session)
			right = right || len(name) == 3 && slices.Contains(names(), name) && bytes.Equal(value, peer)
			loads(t, "with "+name, m, right)
		}
	}
}

// Rows whose values are alike, or are those of zeros, are known by their names alone.
func TestLoadOfRowsThatAreAlike(t *testing.T) {
	two := make([]api.Session, 2)
	for _, c := range []api.Client{{}, {Doing: []byte("call"), Again: []byte("call"), Peers: []api.Peer{{Sessions: two}, {Device: 1, Sessions: two}, {Device: 12}}}} {
		l, ok := rows(t, c)
		if !ok {
			t.Fatal("Rows")
		}
		for i := range l {
			for j := range i {
				loads(t, l[j].Name+" and "+l[i].Name+" exchanged", replaced(replaced(l, i, l[j]), j, l[i]), false)
			}
			for _, name := range append(names(), "", "A", "b", "x", "p", "p16", "p00s4", "p0", "p000") {
				for _, gone := range []bool{false, true} {
					x := l[i]
					x.Name, x.Gone = name, gone
					load(t, replaced(l, i, x))
				}
			}
		}
	}
}

// Other bytes in a row: each byte another, cut off, put behind.
func TestLoadOfOtherBytes(t *testing.T) {
	a := termer(t)
	d := drawer(8)
	l, _ := rows(t, a.whole())
	for i, c := range l {
		with := func(b []byte) []api.Change { return replaced(l, i, api.Change{Name: c.Name, Value: b}) }
		free := c.Name == "d" || c.Name == "g"
		step := 1 + len(c.Value)/80
		for at := 0; at < len(c.Value); at += step {
			for _, x := range []byte{c.Value[at] + 1, c.Value[at] - 1, 0, 1, 2, 255, d.byte()} {
				b := bytes.Clone(c.Value)
				b[at] = x
				load(t, with(b))
			}
			if at > 0 {
				loads(t, "cut off is "+c.Name, with(c.Value[:at]), free)
			}
		}
		for _, more := range []string{"\x00", "\x01", "\x00\x00", "\x00\x00\x00", string(c.Value)} {
			loads(t, "put behind is "+c.Name, with(slices.Concat(c.Value, []byte(more))), free)
		}
		loads(t, "ahead of it is "+c.Name, with(slices.Concat([]byte{0}, c.Value)), free)
		loads(t, "within another is "+c.Name, with(joined(c.Value)), free)
	}
	for _, size := range []int{4000, 4001, 70000} {
		loads(t, "much that is being done", replaced(l, 2, api.Change{Name: "d", Value: make([]byte, size)}), size == 4000)
		loads(t, "much that is done again", replaced(l, 3, api.Change{Name: "g", Value: make([]byte, size)}), size == 4000)
	}
}

// Other pieces in the rows that are joined texts here: each piece another, more, fewer.
func TestLoadOfOtherPieces(t *testing.T) {
	a := termer(t)
	eight := joined(slices.Repeat([][]byte{{0, 1}}, 8)...)
	nine := joined(slices.Repeat([][]byte{{0, 1}}, 9)...)
	for _, c := range []api.Client{a.whole(), a.device(5, 4), {Peers: make([]api.Peer, 1)}} {
		l, _ := rows(t, c)
		for i, c := range l {
			if c.Name != "c" && (c.Name[0] != 'p' || len(c.Name) != 3) {
				continue
			}
			pieces, _ := split(c.Value)
			with := func(l2 [][]byte) []api.Change { return replaced(l, i, api.Change{Name: c.Name, Value: joined(l2...)}) }
			for at, p := range pieces {
				other := func(q ...[]byte) [][]byte { return slices.Replace(slices.Clone(pieces), at, at+1, q...) }
				loads(t, "a piece less", with(other()), false)
				loads(t, "a piece twice", with(other(p, p)), false)
				long := joined(append([]byte{0, 1}, make([]byte, 64)...))
				longer := joined(append([]byte{0, 1}, make([]byte, 65)...))
				for _, q := range [][]byte{nil, {0}, {1}, {2}, {255}, {0, 0}, {0, 1}, {0, 0, 1}, make([]byte, 3), make([]byte, 4), make([]byte, 5), make([]byte, 31), make([]byte, 32), make([]byte, 33), make([]byte, 127), make([]byte, 128), make([]byte, 129), joined(), joined(nil), joined([]byte{0}), joined([]byte{0, 0}), joined([]byte{0, 1}, []byte{1}), eight, nine, long, longer, slices.Concat(p, []byte{0}), slices.Concat([]byte{0}, p), make([]byte, 4096)} {
					load(t, with(other(q)))
					if len(q) > 0 {
						load(t, with(other(q[1:])))
					}
				}
				if len(p) > 0 {
					load(t, with(other(p[1:])))
					load(t, with(other(p[:len(p)-1])))
				}
			}
			loads(t, "a piece more", with(append(slices.Clone(pieces), nil)), false)
		}
	}
}

// Of nine peers that could each be written by itself the rows are none's.
func TestLoadOfManyPeers(t *testing.T) {
	a := termer(t)
	l, _ := rows(t, a.device(5, 4))
	value := valued(t, l, "p04")
	for count := range 17 {
		m := slices.Clone(l[:2])
		for d := range count {
			m = append(m, api.Change{Name: "p" + string(rune('0'+d/10)) + string(rune('0'+d%10)), Value: value})
		}
		loads(t, "many peers", m, count <= 8)
	}
}

// What is kept in a store is the device again.
func TestRowsInAStore(t *testing.T) {
	for _, a := range askers(t) {
		c := a.whole()
		d := disk.New(2048)
		s, e := store.Open(d)
		a.is("Open", e, api.OK)
		for i := range 3 {
			l, _ := rows(t, c)
			a.is("Commit", s.Commit(l), api.OK)
			s, e = store.Open(d)
			a.is("Open", e, api.OK)
			again, ok := load(t, s.All())
			if !ok || differs(again, c) != "" {
				t.Fatalf("out of a store, %d: %t %s", i, ok, differs(again, c))
			}
			c = again
			c.Seq++
			c.Peers[2].Last++
		}
	}
}

// The greatest device that there may be fits into a store.
func TestRowsOfTheGreatestDevice(t *testing.T) {
	a := termer(t)
	d := drawer(9)
	c := api.Client{Device: 0, Account: d.account(8), Doing: d.text(4000), Again: d.text(4000)}
	for device := range byte(8) {
		p := d.peer(device + 8)
		p.Out, p.Held, p.Sessions = nil, nil, nil
		for range 8 {
			p.Out = append(p.Out, api.Said{N: 1, Body: d.text(64)})
			p.Held = append(p.Held, api.Said{N: 2, Body: d.text(64)})
		}
		for range 4 {
			p.Sessions = append(p.Sessions, d.session(16))
		}
		c.Peers = append(c.Peers, p)
	}
	l, ok := rows(t, c)
	if !ok || len(l) != 4+8*5 {
		t.Fatalf("there are %d rows", len(l))
	}
	for _, x := range l {
		if len(x.Value) > api.MaxValue || len(x.Name) > api.MaxName {
			t.Errorf("the row %s has %d bytes", x.Name, len(x.Value))
		}
	}
	s, e := store.Open(disk.New(4096))
	a.is("Open", e, api.OK)
	a.is("Commit", s.Commit(l), api.OK)
	if again, ok := client.Load(s.All()); !ok || differs(again, c) != "" {
		t.Errorf("out of a store: %t", ok)
	}
}
