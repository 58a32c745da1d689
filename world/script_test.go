package world_test

import (
	"strings"

	"missive/api"
	"missive/world"
)

// Scripts.

// odds say how often an entry of a kind comes.
type odds [15]int

// usual is a net in which things are lost and doubled, disks die, and foes come.
func usual() odds {
	return odds{0: 1, api.ActTick: 30, api.ActClock: 10, api.ActSay: 9, api.ActPass: 6, api.ActRipe: 22, api.ActDrop: 2, api.ActDouble: 3, api.ActTrust: 8, api.ActRotate: 3, api.ActFuse: 3, api.ActStart: 3, api.ActTake: 1, api.ActSteal: 1, api.ActForge: 8}
}

// quiet is one without a foe.
func quiet() odds {
	o := usual()
	o[0], o[api.ActTake], o[api.ActSteal], o[api.ActForge] = 0, 0, 0, 0
	return o
}

func (d *drawer) kind(o odds) byte {
	sum := 0
	for _, n := range o {
		sum += n
	}
	at := d.below(sum)
	for k, n := range o {
		if at -= n; at < 0 {
			return byte(k)
		}
	}
	return 0
}

// said is a text: a short one, now and then as long as may be, or longer, or one in which a name's beginning stands.
func (d *drawer) said() []byte {
	switch d.below(20) {
	case 0:
		return nil
	case 1:
		return d.text(64)
	case 2:
		return d.text(65)
	case 3:
		return []byte("a term")
	case 4:
		return []byte("ter m" + strings.Repeat("\x00", 30))
	}
	return d.text(1 + d.below(20))
}

// entry is one that may well be done.
func (d *drawer) entry(c api.Setting, o odds, w *world.World) api.Entry {
	s, x, y, n := of(d, servers(c)), of(d, devices(c)), of(d, devices(c)), of(d, nodes(c))
	switch k := d.kind(o); k {
	case api.ActTick:
		return tick(n)
	case api.ActSay:
		return say(x, y, string(d.said()))
	case api.ActTrust:
		return trust(x, y)
	case api.ActPass, api.ActDrop, api.ActDouble:
		return api.Entry{Kind: k, N: d.below(len(w.Bag()) + 1)}
	case api.ActRotate, api.ActTake:
		return api.Entry{Kind: k, Who: s}
	case api.ActSteal:
		return steal(x)
	case api.ActFuse:
		return fuse(n, d.below(9)-1)
	case api.ActStart:
		return start(d.dying(c, w), d.below(9)-1)
	case api.ActForge:
		return d.forged(c, w)
	case 0:
		return d.anything(c, w)
	default:
		return api.Entry{Kind: k}
	}
}

// dying is a node that is down, if one is.
func (d *drawer) dying(c api.Setting, w *world.World) byte {
	l := nodes(c)
	at := d.below(len(l))
	for i := range l {
		if n := l[(at+i)%len(l)]; w.Down(n) {
			return n
		}
	}
	return l[at]
}

// anything is an entry of any kind and any fields.
func (d *drawer) anything(c api.Setting, w *world.World) api.Entry {
	e := d.entry(c, usual(), w)
	switch d.below(4) {
	case 0:
		e.Who = byte(d.below(256))
	case 1:
		e.Peer = byte(d.below(256))
	case 2:
		e.N = of(d, []int{-1 << 63, -1, 1 << 16, 1 << 32, 1<<63 - 1})
	default:
		e.Kind = byte(d.below(256))
	}
	return e
}
