package client

import (
	"slices"

	"missive/api"
)

// devices is how many devices there are; the node of the first one has this number, too.
const devices = api.MaxServers * api.MaxDevices

// node is the device's own; home is its server's.
func node(c api.Client) byte { return devices + c.Device }

func home(c api.Client) byte { return c.Device / api.MaxDevices }

// find finds the peer of that number where it stands; nil, if it isn't trusted.
func find(l []api.Peer, device byte) *api.Peer {
	at := slices.IndexFunc(l, func(p api.Peer) bool { return p.Device == device })
	if at < 0 {
		return nil
	}
	return &l[at]
}

// own is the device, in memory of its own.
func own(c api.Client) api.Client {
	c.Account.Left = list(c.Account.Left)
	c.Doing, c.Again = list(c.Doing), list(c.Again)
	c.Peers = list(c.Peers)
	for i := range c.Peers {
		p := &c.Peers[i]
		p.Sessions = list(p.Sessions)
		for j, x := range p.Sessions {
			p.Sessions[j].Kept = list(x.Kept)
		}
		p.Out, p.Held = saids(p.Out), saids(p.Held)
	}
	return c
}

func list[T any](l []T) []T { return append([]T(nil), l...) }

func saids(l []api.Said) []api.Said {
	l = list(l)
	for i, x := range l {
		l[i].Body = list(x.Body)
	}
	return l
}
