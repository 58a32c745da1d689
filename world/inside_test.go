package world

import (
	"math"
	"testing"

	"missive/api"
	"missive/disk"
)

// What no script comes to: a clock at its end, more than enough on the way, packets to nobody, and disks on which something else stands.

func inside(t *testing.T) *World {
	w, e := New(api.Setting{Servers: 1, Devices: 1, Free: true})
	if e != api.OK {
		t.Fatal(e)
	}
	return w
}

func TestTheClocksEnd(t *testing.T) {
	w := inside(t)
	w.clock = math.MaxUint32 - 2
	for _, want := range []uint32{math.MaxUint32 - 1, math.MaxUint32, math.MaxUint32, math.MaxUint32} {
		if e := w.Do(api.Entry{Kind: api.ActClock}); e != api.OK || w.clock != want {
			t.Error(e, w.clock)
		}
	}
	w.Do(api.Entry{Kind: api.ActTick, Who: 16})
	if e := w.Do(api.Entry{Kind: api.ActRipe}); e != api.OK {
		t.Error("what is due at the end doesn't arrive:", e)
	}
}

// A round ends behind 300 times, be it that the clock went on or that something arrived.
func TestARoundsEnd(t *testing.T) {
	for _, late := range []uint32{297, 298, 299, 300, 1000} {
		w := inside(t)
		w.bag = []api.Parcel{{From: 16, To: 200, Due: late}}
		w.Calm(1)
		// Of the 300 four are a call and its reply, and the clock's two ticks ahead of them; then the clock goes on, and the parcel arrives.
		left := late > 297
		if len(w.bag) != 0 && !left || len(w.bag) == 0 && left {
			t.Error(late, len(w.bag), w.clock)
		}
		if want := min(late, 298); w.clock != want {
			t.Error(late, w.clock)
		}
	}
}

// What is to a node that isn't there is taken, and gives ErrNone.
func TestToNobody(t *testing.T) {
	for _, to := range []byte{1, 3, 4, 15, 17, 20, 31, 32, 255} {
		for _, kind := range []byte{api.ActPass, api.ActRipe} {
			w := inside(t)
			w.bag = []api.Parcel{{From: 16, To: to}}
			if e := w.Do(api.Entry{Kind: kind}); e != api.ErrNone || len(w.bag) != 0 {
				t.Error(to, kind, e, len(w.bag))
			}
		}
	}
}

// rot writes a block of something else onto a node's disk.
func (n *node) rot() {
	n.disk.Write(0, make([]byte, api.Block))
	b := make([]byte, api.Block)
	b[0] = 1
	n.disk.Write(n.disk.Blocks()/2, b)
	n.disk.Sync()
}

// A node whose disk is spoilt is down, and stays so till it is started with a disk that isn't.
func TestSpoiltDisks(t *testing.T) {
	for _, who := range []byte{0, 16} {
		w := inside(t)
		n := w.nodes[who]
		n.rot()
		for range 2 {
			if e := w.Do(api.Entry{Kind: api.ActStart, Who: who}); e != api.ErrSpoilt || !w.Down(who) {
				t.Error(who, e)
			}
			if e := w.Do(api.Entry{Kind: api.ActTick, Who: who}); e != api.ErrDead {
				t.Error(who, e)
			}
		}
		n.disk = disk.New(64)
		if e := w.Do(api.Entry{Kind: api.ActStart, Who: who}); e != api.ErrSpoilt || !w.Down(who) {
			t.Error("rows that are none's, as there are none:", who, e)
		}
	}
}

// Rows that are no such node's: it is down, too.
func TestSpoiltRows(t *testing.T) {
	for _, who := range []byte{0, 16} {
		w := inside(t)
		other, _ := w.nodes[16-who].self.rows()
		for _, l := range [][]api.Change{{{Name: "zz", Value: []byte("x")}}, {{Name: "zz", Gone: true}, {Name: "s", Gone: true}, {Name: "a", Gone: true}}, other} {
			n := w.nodes[who]
			if e := n.store.Commit(l); e != api.OK {
				t.Fatal(e)
			}
			if e := w.Do(api.Entry{Kind: api.ActStart, Who: who}); e != api.ErrSpoilt || !w.Down(who) {
				t.Error(who, e)
			}
			n.disk.Crash(0)
		}
	}
}

// What hung hangs no more, be the start one that fails.
func TestSpoiltHangsNoMore(t *testing.T) {
	w := inside(t)
	n := w.nodes[16]
	n.down, n.hangs = true, &hung{lines: []line{{log{false, 0, 1}, []byte("x")}}}
	n.rot()
	w.Do(api.Entry{Kind: api.ActStart, Who: 16})
	if n.hangs != nil || len(w.Said(0, 1)) > 0 {
		t.Error("it hangs")
	}
}

// A node that can't be written as rows is left as it is.
func TestRowsThatCannotBe(t *testing.T) {
	w := inside(t)
	n := w.nodes[0]
	n.self.relay.Homes[1].Reply = make([]byte, 5000)
	if e := w.Do(api.Entry{Kind: api.ActTick}); e == api.OK || n.self.relay.Clock != 0 || n.down {
		t.Error(e, n.self.relay.Clock, n.down)
	}
}

func row(name, value string) api.Change { return api.Change{Name: name, Value: []byte(value)} }

func gone(name string) api.Change { return api.Change{Name: name, Gone: true} }

func TestChanges(t *testing.T) {
	for i, x := range []struct{ has, want, made []api.Change }{
		{nil, nil, nil},
		{nil, []api.Change{row("a", ""), row("b", "x")}, []api.Change{row("a", ""), row("b", "x")}},
		{[]api.Change{row("a", ""), row("b", "x")}, nil, []api.Change{gone("a"), gone("b")}},
		{[]api.Change{row("a", "xyz"), row("b", "xyz"), row("c", "y"), row("d", "y")}, []api.Change{row("a", "y"), row("b", ""), row("c", "xyz"), row("d", "y")}, []api.Change{row("a", "y"), row("b", ""), row("c", "xyz")}},
		{[]api.Change{row("b", "1"), row("d", "1"), row("e", "1")}, []api.Change{row("a", "1"), row("c", "1"), row("e", "2")}, []api.Change{row("a", "1"), row("c", "1"), row("e", "2"), gone("b"), gone("d")}},
	} {
		if got := changes(x.has, x.want); !alike(got, x.made) {
			t.Error(i, got)
		}
	}
}

// alike tells whether two lists of changes are the same.
func alike(a, b []api.Change) bool {
	if len(a) != len(b) {
		return false
	}
	for i, x := range a {
		if y := b[i]; x.Name != y.Name || string(x.Value) != string(y.Value) || x.Gone != y.Gone {
			return false
		}
	}
	return true
}

func TestSame(t *testing.T) {
	rows := []api.Change{row("a", "xyz"), row("b", "xyz"), row("c", "")}
	for i, l := range [][]api.Change{nil, rows[:2], {row("a", "xyz"), row("b", "xyz"), row("d", "")}, {row("a", "y"), row("b", "xyz"), row("c", "")}, {row("a", "xyz"), row("b", "wxyz"), row("c", "")}, {row("A", "xy"), row("b", "xyz"), row("c", "")}, append(rows[:3:3], row("d", ""))} {
		if same(rows, l) || same(l, rows) {
			t.Error(i, "they are not the same")
		}
	}
	if !same(nil, nil) || !same(rows, append([]api.Change(nil), rows...)) {
		t.Error("they are the same")
	}
}
