package world

import (
	"bytes"
	"math"

	"missive/api"
	"missive/bag"
	"missive/foe"
	"missive/octet"
)

// Do does an entry of a script.
func (w *World) Do(e api.Entry) api.Errno {
	w.entries++
	switch e.Kind {
	case api.ActClock:
		if w.clock < math.MaxUint32 {
			w.clock++
		}
		return api.OK
	case api.ActPass:
		return w.pass(e.N)
	case api.ActRipe:
		return w.pass(bag.Ripe(w.bag, w.clock))
	case api.ActDrop:
		_, x := w.take(e.N)
		return x
	case api.ActDouble:
		return w.double(e.N)
	case api.ActTick, api.ActFuse, api.ActStart, api.ActForge:
		return w.forNode(w.nodes[e.Who], e)
	case api.ActSay, api.ActTrust, api.ActSteal:
		return w.forDevice(w.device(e.Who), e)
	case api.ActRotate, api.ActTake:
		return w.forServer(w.server(e.Who), e)
	}
	return api.ErrArg
}

// forNode does an entry that is for any node.
func (w *World) forNode(n *node, e api.Entry) api.Errno {
	if n == nil {
		return api.ErrNone
	}
	switch e.Kind {
	case api.ActTick:
		return w.step(n, func() (deed, api.Errno) { return n.self.tick(w.s, w.draw()) })
	case api.ActFuse:
		n.disk.Fuse(e.N)
		return api.OK
	case api.ActStart:
		return w.start(n, e.N)
	}
	return w.forge(e)
}

// forDevice does an entry that is for a device.
func (w *World) forDevice(n *node, e api.Entry) api.Errno {
	switch {
	case n == nil:
		return api.ErrNone
	case e.Kind == api.ActSay:
		return w.say(n, e)
	case e.Kind == api.ActTrust:
		return w.trust(n, e.Peer)
	}
	w.yield(n)
	return api.OK
}

// forServer does an entry that is for a server.
func (w *World) forServer(n *node, e api.Entry) api.Errno {
	switch {
	case n == nil:
		return api.ErrNone
	case e.Kind == api.ActRotate:
		return w.step(n, func() (deed, api.Errno) { return n.self.rotate(w.s, w.draw()) })
	}
	w.yield(n)
	return api.OK
}

// draw is the draws of the entry that is being done.
func (w *World) draw() api.Key {
	k := api.Key{0, 5}
	b, _ := octet.Put(uint64(w.entries), 4)
	copy(k[2:], b)
	return k
}

// say lets a device say something. In it no name may stand that was never made.
func (w *World) say(n *node, e api.Entry) api.Errno {
	if bytes.Contains(e.Text, []byte("term")) {
		return api.ErrArg
	}
	return w.step(n, func() (deed, api.Errno) { return n.self.say(e.Peer, e.Text) })
}

func (w *World) trust(n *node, peer byte) api.Errno {
	p := w.device(peer)
	if p == nil {
		return api.ErrNone
	}
	return w.step(n, func() (deed, api.Errno) { return n.self.trust(w.s, peer, p.self.client.Account) })
}

// take takes a parcel off the way.
func (w *World) take(i int) (api.Parcel, api.Errno) {
	l, p, ok := bag.Take(w.bag, i)
	if !ok {
		return p, api.ErrNone
	}
	w.bag = l
	return p, api.OK
}

// pass lets a parcel arrive.
func (w *World) pass(i int) api.Errno {
	p, e := w.take(i)
	if e != api.OK {
		return e
	}
	return w.arrive(p.To, p.Bytes)
}

// arrive brings bytes to a node.
func (w *World) arrive(to byte, b []byte) api.Errno {
	n := w.nodes[to]
	if n == nil {
		return api.ErrNone
	}
	return w.step(n, func() (deed, api.Errno) { return n.self.handle(w.s, b, w.draw()) })
}

func (w *World) double(i int) api.Errno {
	l, ok := bag.Double(w.bag, i)
	switch {
	case ok:
		w.bag = l
		return api.OK
	case i < 0 || i >= len(w.bag):
		return api.ErrNone
	}
	return api.ErrFull
}

// forge brings what the foe makes to a node.
func (w *World) forge(e api.Entry) api.Errno {
	b, ok := foe.Cook(w.s, e.Steps, w.seen, w.held)
	if !ok {
		return api.ErrForm
	}
	w.seen = append(w.seen, b)
	return w.arrive(e.Who, b)
}
