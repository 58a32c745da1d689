package account

import (
	"slices"

	"missive/api"
	"missive/ratchet"
	"missive/suite"
)

// side is an agreement as one of the two has it: a secret of its own, a public key of the other one.
type side struct{ secret, public api.Key }

// Begin is a session with the device that handed out the bundle.
func Begin(s suite.Suite, x api.Account, b api.Bundle, e, draw api.Key) (api.Session, api.Errno) {
	if !Check(s, b) {
		return api.Session{}, api.ErrSign
	}
	secret := s.Fresh(e)
	shared, ok := share(s, [3]side{{x.Agree, b.Once}, {secret, b.Agree}, {secret, b.Once}})
	if !ok {
		return api.Session{}, api.ErrKey
	}
	mine, signer := Public(s, x)
	base := s.Public(secret)
	y := ratchet.Begin(s, number(s, mine, base, b.Once), shared, draw)
	y.First, y.Agree, y.Signer, y.Base, y.Once = true, mine, signer, base, b.Id
	if !made(s, secret, shared, mine, signer, base, y.Id, y.Root, y.Send.Key, y.Mine) {
		return api.Session{}, api.ErrFull
	}
	return y, api.OK
}

// Answer is the session that a first letter's header begins, and the account that has used up the key.
func Answer(s suite.Suite, x api.Account, h api.Header) (api.Account, api.Session, api.Errno) {
	left, y, e := answer(s, x, h)
	if e != api.OK {
		return own(x), api.Session{}, e
	}
	return own(left), y, api.OK
}

// answer is Answer; beside an error its other answers say nothing.
func answer(s suite.Suite, x api.Account, h api.Header) (api.Account, api.Session, api.Errno) {
	if !h.First {
		return x, api.Session{}, api.ErrArg
	}
	x, secret, ok := take(x, h.Id)
	if !ok {
		return x, api.Session{}, api.ErrKey
	}
	shared, ok := share(s, [3]side{{secret, h.Agree}, {x.Agree, h.Base}, {secret, h.Base}})
	if !ok {
		return x, api.Session{}, api.ErrKey
	}
	id := number(s, h.Agree, h.Base, s.Public(secret))
	if !made(s, id) || id != h.Session {
		return x, api.Session{}, api.ErrKey
	}
	y := ratchet.Join(s, id, shared, h.Ratchet)
	if !made(s, shared, y.Root, y.Recv.Key) {
		return x, api.Session{}, api.ErrFull
	}
	return x, y, api.OK
}

// take tells the secret of the key of that number, and the account without that key; the fallback stays.
func take(x api.Account, id uint16) (api.Account, api.Key, bool) {
	if x.Fallback.Id == id {
		return x, x.Fallback.Secret, true
	}
	at := slices.IndexFunc(x.Left, func(k api.Once) bool { return k.Id == id })
	if at < 0 {
		return x, api.Key{}, false
	}
	secret := x.Left[at].Secret
	x.Left = slices.Concat(x.Left[:at], x.Left[at+1:])
	return x, secret, true
}

// share mixes what the three sides agree on, and tells whether all of them do.
func share(s suite.Suite, sides [3]side) (api.Key, bool) {
	var parts [][]byte
	for _, x := range sides {
		k, ok := s.Agree(x.secret, x.public)
		if !ok {
			return api.Key{}, false
		}
		parts = append(parts, k[:])
	}
	shared, _ := s.Mix(sharedLabel, parts...)
	return shared, true
}

// number is that of a session: of the public keys of who writes, of what it made freshly, and of the key that the other one had published.
func number(s suite.Suite, writer, base, once api.Key) api.Key {
	k, _ := s.Mix(numberLabel, writer[:], base[:], once[:])
	return k
}
