package world_test

import (
	"slices"
	"testing"

	"missive/api"
	"missive/world"
)

// What is handed in.

// drawer makes numbers and bytes that look like thrown ones, the same each time.
type drawer uint64

func (d *drawer) below(n int) int {
	*d = *d*6364136223846793005 + 1442695040888963407
	return int(uint64(*d) >> 33 % uint64(n))
}

func (d *drawer) text(n int) []byte {
	b := make([]byte, n)
	for i := range b {
		b[i] = byte(d.below(256))
	}
	return b
}

// of is one of the list.
func of[T any](d *drawer, l []T) T { return l[d.below(len(l))] }

// Entries of each kind.

func tick(node byte) api.Entry     { return api.Entry{Kind: api.ActTick, Who: node} }
func clock() api.Entry             { return api.Entry{Kind: api.ActClock} }
func pass(n int) api.Entry         { return api.Entry{Kind: api.ActPass, N: n} }
func ripe() api.Entry              { return api.Entry{Kind: api.ActRipe} }
func drop(n int) api.Entry         { return api.Entry{Kind: api.ActDrop, N: n} }
func double(n int) api.Entry       { return api.Entry{Kind: api.ActDouble, N: n} }
func trust(d, peer byte) api.Entry { return api.Entry{Kind: api.ActTrust, Who: d, Peer: peer} }
func rotate(s byte) api.Entry      { return api.Entry{Kind: api.ActRotate, Who: s} }
func fuse(node byte, n int) api.Entry {
	return api.Entry{Kind: api.ActFuse, Who: node, N: n}
}
func start(node byte, n int) api.Entry {
	return api.Entry{Kind: api.ActStart, Who: node, N: n}
}
func take(s byte) api.Entry  { return api.Entry{Kind: api.ActTake, Who: s} }
func steal(d byte) api.Entry { return api.Entry{Kind: api.ActSteal, Who: d} }
func say(d, peer byte, text string) api.Entry {
	return api.Entry{Kind: api.ActSay, Who: d, Peer: peer, Text: []byte(text)}
}
func forge(node byte, l ...api.Step) api.Entry {
	return api.Entry{Kind: api.ActForge, Who: node, Steps: l}
}

// Settings and nodes.

func free(servers, devices int, need byte) api.Setting {
	return api.Setting{Servers: servers, Devices: devices, Need: need, Free: true}
}

func real(servers, devices int, need byte) api.Setting {
	return api.Setting{Servers: servers, Devices: devices, Need: need}
}

// settings are all that may be, of one suite.
func settings(isFree bool) (l []api.Setting) {
	for servers := 1; servers <= 4; servers++ {
		for devices := 1; devices <= 4; devices++ {
			for need := range servers {
				l = append(l, api.Setting{Servers: servers, Devices: devices, Need: byte(need), Free: isFree})
			}
		}
	}
	return l
}

func servers(c api.Setting) (l []byte) {
	for i := range c.Servers {
		l = append(l, byte(i))
	}
	return l
}

func devices(c api.Setting) (l []byte) {
	for i := range c.Servers {
		for place := range c.Devices {
			l = append(l, byte(4*i+place))
		}
	}
	return l
}

func nodes(c api.Setting) (l []byte) {
	l = servers(c)
	for _, d := range devices(c) {
		l = append(l, 16+d)
	}
	return l
}

// Worlds.

// begun is a world of the setting.
func begun(t testing.TB, c api.Setting) *world.World {
	t.Helper()
	w, e := world.New(c)
	if e != api.OK || w == nil {
		t.Fatal("New", c, e)
	}
	return w
}

// do does entries that are to be done.
func do(t testing.TB, w *world.World, l ...api.Entry) {
	t.Helper()
	for i, e := range l {
		if x := w.Do(e); x != api.OK {
			t.Fatalf("entry %d of %d (%v): %d", i, len(l), e, x)
		}
	}
}

// not does an entry that gives an error.
func not(t testing.TB, w *world.World, want api.Errno, e api.Entry) {
	t.Helper()
	if x := w.Do(e); x != want {
		t.Errorf("%v: %d instead of %d", e, x, want)
	}
}

// friends is a world in which all devices trust one another, as far as there is room.
func friends(t testing.TB, c api.Setting) *world.World {
	t.Helper()
	w := begun(t, c)
	do(t, w, all(c)...)
	return w
}

// all are the entries by which each device trusts those nearest by number, at most eight, both ways.
func all(c api.Setting) (l []api.Entry) {
	ds := devices(c)
	for i, d := range ds {
		for by := 1; by <= 4 && by < len(ds); by++ {
			j := (i + by) % len(ds)
			for _, x := range []api.Entry{trust(d, ds[j]), trust(ds[j], d)} {
				if !slices.ContainsFunc(l, func(y api.Entry) bool { return x.Who == y.Who && x.Peer == y.Peer }) {
					l = append(l, x)
				}
			}
		}
	}
	return l
}

// hears fails, unless what was heard is this.
func hears(t testing.TB, w *world.World, at, from byte, want ...string) {
	t.Helper()
	if got := w.Heard(at, from); !slices.EqualFunc(got, want, func(b []byte, s string) bool { return string(b) == s }) {
		t.Errorf("%d heard of %d %q instead of %q", at, from, got, want)
	}
}

// said fails, unless what was said is this.
func said(t testing.TB, w *world.World, from, to byte, want ...string) {
	t.Helper()
	if got := w.Said(from, to); !slices.EqualFunc(got, want, func(b []byte, s string) bool { return string(b) == s }) {
		t.Errorf("%d said to %d %q instead of %q", from, to, got, want)
	}
}
