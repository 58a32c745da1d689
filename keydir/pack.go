package keydir

import (
	"bytes"

	"missive/api"
	"missive/octet"
	"missive/wire"
)

// fixed is how many pieces stand ahead of the bundles that are left.
const fixed = 2

// Pack writes a shelf.
func Pack(x api.Shelf) ([]byte, bool) {
	if len(x.Left) > api.MaxOnce || !x.Has && x.Fallback != (api.Bundle{}) {
		return nil, false
	}
	last, _ := octet.Put(uint64(x.Last), 2)
	l := [][]byte{last, nil}
	if x.Has {
		l[1], _ = wire.PutBundle(x.Fallback)
	}
	for _, b := range x.Left {
		p, _ := wire.PutBundle(b)
		l = append(l, p)
	}
	return octet.Join(l...)
}

// Unpack reads what Pack writes.
func Unpack(b []byte) (api.Shelf, bool) {
	l, _ := octet.Split(b)
	if len(l) < fixed {
		return api.Shelf{}, false
	}
	last, _ := octet.Get(l[0])
	x := api.Shelf{Has: len(l[1]) > 0, Fallback: bundle(l[1]), Last: uint16(last)}
	for _, p := range l[fixed:] {
		x.Left = append(x.Left, bundle(p))
	}
	// Whatever was read amiss is written otherwise than it stood there.
	again, ok := Pack(x)
	if !ok || !bytes.Equal(again, b) {
		return api.Shelf{}, false
	}
	return x, true
}

// bundle reads a bundle: a piece that is none as zeros.
func bundle(b []byte) api.Bundle {
	x, _ := wire.GetBundle(b)
	return x
}
