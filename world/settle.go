package world

import (
	"missive/account"
	"missive/api"
	"missive/client"
	"missive/disk"
	"missive/relay"
	"missive/store"
)

const (
	serverBlocks = 2048
	deviceBlocks = 1024
)

// settle puts the servers and their devices into a new world. All secrets are drawn ahead of the nodes: each of these knows the others' public keys.
func (w *World) settle(c api.Setting) {
	cache := api.Cache{Need: c.Need}
	var first [api.MaxServers]api.Key
	for i := range c.Servers {
		first[i] = w.s.Fresh(drawn(1, i))
		cache.First[i] = w.s.Signer(first[i])
	}
	for i := range c.Servers {
		homes := w.household(i, c.Devices, cache)
		w.put(byte(i), serverBlocks, self{relay: relay.New(w.s, byte(i), first[i], cache, homes)})
	}
}

// household puts a server's devices into a new world, and tells by which keys they are known.
func (w *World) household(server, devices int, cache api.Cache) [api.MaxDevices]api.Home {
	var homes [api.MaxDevices]api.Home
	for place := range devices {
		d := server*api.MaxDevices + place
		x := account.New(w.s, drawn(2, d), drawn(3, d), drawn(4, d))
		homes[place].Agree, homes[place].Signer = account.Public(w.s, x)
		w.put(device0+byte(d), deviceBlocks, self{device: true, client: client.New(byte(d), x, cache)})
	}
	return homes
}

// drawn is what a node's secret is made of at the beginning.
func drawn(what byte, who int) api.Key { return api.Key{0, what, byte(who)} }

// put gives a new node its disk, with what it is on it.
func (w *World) put(number byte, blocks int, x self) {
	d := disk.New(blocks)
	s, _ := store.Open(d)
	rows, _ := x.rows()
	s.Commit(rows)
	w.nodes[number] = &node{self: x, disk: d, store: s}
}
