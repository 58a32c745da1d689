package account

import (
	"bytes"

	"missive/api"
	"missive/octet"
)

// fixed is how many pieces stand ahead of the one-time keys.
const fixed = 4

// Pack writes an account.
func Pack(x api.Account) ([]byte, bool) {
	if len(x.Left) > api.MaxOnce || x.Fallback.Id != 0 {
		return nil, false
	}
	l := [][]byte{x.Agree[:], x.Sign[:], x.Fallback.Secret[:], two(x.Next)}
	for _, k := range x.Left {
		l = append(l, append(two(k.Id), k.Secret[:]...))
	}
	return octet.Join(l...)
}

// Unpack reads what Pack writes.
func Unpack(b []byte) (api.Account, bool) {
	l, _ := octet.Split(b)
	if len(l) < fixed {
		return api.Account{}, false
	}
	x := api.Account{Agree: key(l[0]), Sign: key(l[1]), Fallback: api.Once{Secret: key(l[2])}, Next: count(l[3])}
	for _, p := range l[fixed:] {
		x.Left = append(x.Left, once(p))
	}
	// Whatever was read amiss is written otherwise than it stood there.
	again, ok := Pack(x)
	if !ok || !bytes.Equal(again, b) {
		return api.Account{}, false
	}
	return x, true
}

// once reads a one-time key, key a secret, count a number: a piece that is none as zeros.
func once(b []byte) api.Once {
	if len(b) < 2 {
		return api.Once{}
	}
	return api.Once{Id: count(b[:2]), Secret: key(b[2:])}
}

func key(b []byte) api.Key {
	k, _ := octet.Key(b)
	return k
}

func count(b []byte) uint16 {
	n, _ := octet.Get(b)
	return uint16(n)
}

// two is a number in two bytes.
func two(n uint16) []byte {
	b, _ := octet.Put(uint64(n), 2)
	return b
}
