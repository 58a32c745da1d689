package world

import (
	"missive/api"
	"missive/disk"
	"missive/store"
)

const (
	devices = api.MaxServers * api.MaxDevices
	device0 = devices // the node of the device 0
)

// node is a server or a device, with its disk.
type node struct {
	self  self
	disk  *disk.Disk
	store *store.Store
	down  bool
	foes  bool
	hangs *hung
}

// hung is what a step would have made whose disk died: nobody knows whether it did, till the node starts anew.
type hung struct {
	rows  []api.Change
	lines []line
}

// server is the node of the server i, nil if it isn't there.
func (w *World) server(i byte) *node {
	if i >= device0 {
		return nil
	}
	return w.nodes[i]
}

// device is the node of the device d, nil if it isn't there.
func (w *World) device(d byte) *node {
	if d >= devices {
		return nil
	}
	return w.nodes[device0+d]
}

// start begins a node anew, with what its disk kept.
func (w *World) start(n *node, keep int) api.Errno {
	n.disk.Crash(keep)
	e := n.open()
	n.down = e != api.OK
	h := n.hangs
	n.hangs = nil
	if n.down {
		return e
	}
	if h != nil && same(h.rows, n.store.All()) {
		w.note(h.lines)
	}
	w.learn(n)
	return api.OK
}

// open makes the node what its disk says.
func (n *node) open() api.Errno {
	s, e := store.Open(n.disk)
	if e != api.OK {
		return e
	}
	x, ok := n.self.load(s.All())
	if !ok {
		return api.ErrSpoilt
	}
	n.store, n.self = s, x
	return api.OK
}
