package keydir

import (
	"slices"

	"missive/account"
	"missive/api"
	"missive/suite"
)

// Stock is the shelf with the device's bundles: the first one is the fallback from now on, the others are left behind those that are.
func Stock(s suite.Suite, x api.Shelf, device byte, agree, signer api.Key, l []api.Bundle) (api.Shelf, api.Errno) {
	x.Left = own(x.Left)
	of := func(b api.Bundle) bool {
		return b.Device == device && b.Agree == agree && b.Signer == signer && account.Check(s, b)
	}
	last, ok := rise(l, x.Last)
	switch {
	case !ok:
		return x, api.ErrForm
	case !all(l, of):
		return x, api.ErrSign
	case len(x.Left)+len(l)-1 > api.MaxOnce:
		return x, api.ErrFull
	}
	x.Has, x.Fallback, x.Last = true, l[0], last
	x.Left = slices.Concat(x.Left, l[1:])
	return x, api.OK
}

// rise tells the greatest number there ever was, and whether the bundles are a fallback and others, each with a number that there never was.
func rise(l []api.Bundle, last uint16) (uint16, bool) {
	if len(l) == 0 || l[0].Id != 0 {
		return 0, false
	}
	for _, b := range l[1:] {
		if b.Id <= last {
			return 0, false
		}
		last = b.Id
	}
	return last, true
}

// all tells whether it holds of each bundle.
func all(l []api.Bundle, holds func(api.Bundle) bool) bool {
	return !slices.ContainsFunc(l, func(b api.Bundle) bool { return !holds(b) })
}

// Claim hands out a key: of those that are left the first one, which is left no more, else the fallback.
func Claim(x api.Shelf) (api.Shelf, api.Bundle, bool) {
	if len(x.Left) > 0 {
		b := x.Left[0]
		x.Left = own(x.Left[1:])
		return x, b, true
	}
	x.Left = nil
	if !x.Has {
		return x, api.Bundle{}, false
	}
	return x, x.Fallback, true
}
