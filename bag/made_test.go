package bag_test

import (
	"slices"

	"missive/api"
	"missive/wire"
)

// What is handed in.

// drawer makes numbers and bytes that look like thrown ones, the same each time.
type drawer uint64

func (d *drawer) below(n int) int {
	*d = *d*6364136223846793005 + 1442695040888963407
	return int(uint64(*d) >> 33 % uint64(n))
}

func (d *drawer) text(n int) []byte {
	b := make([]byte, n)
	for i := range b {
		b[i] = byte(d.below(256))
	}
	return b
}

func (d *drawer) object(vouches int) api.Object {
	x := api.Object{Server: byte(d.below(256)), N: byte(d.below(256)), Key: api.Key(d.text(32)), From: uint32(d.below(1 << 31)), Until: uint32(d.below(1 << 31)), Sig: api.Sig(d.text(64))}
	for range vouches {
		x.Vouches = append(x.Vouches, api.Vouch{Notary: byte(d.below(256)), Sig: api.Sig(d.text(64))})
	}
	return x
}

// packet is one of any kind, chain and body.
func (d *drawer) packet(from, to byte) []byte {
	x := api.Packet{From: from, To: to, Kind: byte(1 + d.below(4)), Body: d.text(d.below(40)), Sig: api.Sig(d.text(64))}
	for range d.below(5) {
		x.Chain = append(x.Chain, d.object(d.below(5)))
	}
	b, _ := wire.PutPacket(x)
	return b
}

// node is one that stands somewhere.
func (d *drawer) node() byte { return all()[d.below(20)] }

// parcel is one of any fields: no packet, of any nodes, due at any time.
func (d *drawer) parcel() api.Parcel {
	return api.Parcel{From: byte(d.below(256)), To: byte(d.below(256)), Due: uint32(d.below(1<<31))*2 + uint32(d.below(2)), Bytes: d.text(d.below(30))}
}

// parcels are so many of them.
func (d *drawer) parcels(n int) (l []api.Parcel) {
	for range n {
		l = append(l, d.parcel())
	}
	return l
}

// all are the nodes that stand somewhere.
func all() (l []byte) {
	for n := range byte(4) {
		l = append(l, n)
	}
	for n := range byte(16) {
		l = append(l, 16+n)
	}
	return l
}

// plain is the least packet there is.
func plain(from, to byte) []byte {
	b, _ := wire.PutPacket(api.Packet{From: from, To: to, Kind: api.PackCall})
	return b
}

// tagged is a packet that has a number.
func tagged(n int, from, to byte) []byte {
	b, _ := wire.PutPacket(api.Packet{From: from, To: to, Kind: api.PackCall, Body: []byte{byte(n >> 8), byte(n)}})
	return b
}

// greatest is the longest packet: four keys, each with four vouches, and 4096 bytes.
func greatest(from, to byte) []byte {
	d := drawer(3)
	x := api.Packet{From: from, To: to, Kind: api.PackTrans, Body: d.text(4096), Sig: api.Sig(d.text(64))}
	for range 4 {
		x.Chain = append(x.Chain, d.object(4))
	}
	b, _ := wire.PutPacket(x)
	return b
}

// due are parcels that are due at these ticks, each with bytes of its own.
func due(ticks ...uint32) (l []api.Parcel) {
	for i, n := range ticks {
		l = append(l, api.Parcel{From: byte(i), To: byte(n), Due: n, Bytes: []byte{byte(i), 1}})
	}
	return l
}

// strange are bytes that are no packets.
func strange() [][]byte {
	d := drawer(4)
	good := d.packet(0, 2)
	bundle, _ := wire.PutBundle(api.Bundle{})
	object, _ := wire.PutObject(api.Object{})
	call, _ := wire.PutCall(api.Call{Kind: api.CallSync})
	trans, _ := wire.PutTrans(api.Trans{})
	above, below := slices.Clone(good), plain(0, 1)
	above[9] = 5
	below[9] = 0
	return [][]byte{nil, {}, {0}, {1}, {6}, []byte("?"), []byte("term"), make([]byte, 64), make([]byte, 5000), good[1:], good[:len(good)-1], append(slices.Clone(good), 0), append(slices.Clone(good), good...), bundle, object, call, trans, above, below, greatest(0, 1)[:5000]}
}
