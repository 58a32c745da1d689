package foe

import (
	"bytes"
	"math"

	"missive/api"
	"missive/octet"
)

// mark is what names begin with: who could write it could write names.
const mark = "term"

// maxParts is how many parts are joined at most.
const maxParts = 16

// The draws of a foe's own secrets have this behind a 0, and then a number of so many bytes.
const (
	ownDraw = 251
	ownSize = 2
)

// write tells the bytes themselves, if they are few and no name can be made of them.
func write(b []byte) ([]byte, bool) {
	return b, len(b) <= api.MaxLiteral && !bytes.Contains(b, []byte(mark))
}

// piece is that of the number n of the joined text at the place a.
func (k kitchen) piece(a, n int) ([]byte, bool) {
	// Neither where nothing stands nor of what is no joined text there are pieces.
	b, _ := at(k.made, a)
	pieces, _ := octet.Split(b)
	return at(pieces, n)
}

// join is the joined text of what stands at the places.
func (k kitchen) join(places []int) ([]byte, bool) {
	l, ok := k.parts(places)
	if !ok || len(l) > maxParts {
		return nil, false
	}
	return octet.Join(l...)
}

// fresh is the foe's own secret of the number n.
func (k kitchen) fresh(n int) ([]byte, bool) {
	b, ok := octet.Put(uint64(n), ownSize)
	if !ok {
		return nil, false
	}
	return whole(k.suite.Fresh(api.Key{0, ownDraw, b[0], b[1]}))
}

// show is what the call makes of the key at the place a.
func (k kitchen) show(a int, call func(api.Key) api.Key) ([]byte, bool) {
	secret, ok := k.key(a)
	if !ok {
		return nil, false
	}
	return whole(call(secret))
}

// agree is what the keys at the places a and b have in common.
func (k kitchen) agree(a, b int) ([]byte, bool) {
	secret, ok := k.key(a)
	public, there := k.key(b)
	if !ok || !there {
		return nil, false
	}
	shared, ok := k.suite.Agree(secret, public)
	return shared[:], ok
}

// sign is the secret's signature under the text.
func (k kitchen) sign(secret api.Key, text []byte) ([]byte, bool) {
	sig := k.suite.Sign(secret, text)
	// Zeros are the suite's refusal: of a text that is too long, or where there is no room for a term.
	return sig[:], sig != api.Sig{}
}

// mix is the key that is made of the label n and of what stands at the places.
func (k kitchen) mix(n int, places []int) ([]byte, bool) {
	l, ok := k.parts(places)
	if !ok || n < 0 || n > math.MaxUint8 {
		return nil, false
	}
	mixed, ok := k.suite.Mix(byte(n), l...)
	return mixed[:], ok
}

// by is what the call makes of the key at the place a and of what stands at the place b.
func (k kitchen) by(a, b int, call func(api.Key, []byte) ([]byte, bool)) ([]byte, bool) {
	key, ok := k.key(a)
	text, there := at(k.made, b)
	if !ok || !there {
		return nil, false
	}
	return call(key, text)
}

// hold is the secret at the place n of those that the foe holds.
func (k kitchen) hold(n int) ([]byte, bool) {
	secret, ok := at(k.own, n)
	return secret[:], ok
}

// key is that at the place i, if what stands there is one.
func (k kitchen) key(i int) (api.Key, bool) {
	// Where nothing stands there is no key.
	b, _ := at(k.made, i)
	return octet.Key(b)
}

// parts are what stands at the places, if all of them are there.
func (k kitchen) parts(places []int) ([][]byte, bool) {
	var l [][]byte
	for _, i := range places {
		b, ok := at(k.made, i)
		if !ok {
			return nil, false
		}
		l = append(l, b)
	}
	return l, true
}

// whole is the key's bytes, and whether there is one: by zeros, which no draw and no secret gives else, the suite tells that there is no room for a term.
func whole(k api.Key) ([]byte, bool) { return k[:], k != api.Key{} }

// at is what stands at the place i, if there is such a place.
func at[T any](l []T, i int) (T, bool) {
	if i < 0 || i >= len(l) {
		var none T
		return none, false
	}
	return l[i], true
}
