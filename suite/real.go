package suite

import (
	"slices"

	"missive/api"
	"missive/cbc"
	"missive/mac"
)

// Of what a key is spread to, the ends of the three pieces: what locks, what marks, and the beginning.
const (
	locking   = 32
	marking   = 64
	beginning = 80
)

// tail is how many bytes stand behind what is locked: by them it is seen who locked it.
const tail = 16

// lock is the plain text, locked by the key, and its stamp.
func lock(key api.Key, plain []byte) []byte {
	own, mark, begin := spread(key)
	b := cbc.Lock(own, begin, plain)
	return slices.Concat(b, stamp(mark, b))
}

// unlock is the plain text that lock took with the key, and whether there is one.
func unlock(key api.Key, sealed []byte) ([]byte, bool) {
	if len(sealed) < Size(0) {
		return nil, false
	}
	own, mark, begin := spread(key)
	end := len(sealed) - tail
	b := sealed[:end]
	if !mac.Same(stamp(mark, b), sealed[end:]) {
		return nil, false
	}
	plain, ok := cbc.Unlock(own, begin, b)
	// Who has the key can lock a longer text than Seal takes: that isn't opened either.
	if !ok || len(plain) > api.MaxPlain {
		return nil, false
	}
	return plain, true
}

// spread tells the three pieces that the key is spread to.
func spread(key api.Key) (own, mark [32]byte, begin [16]byte) {
	b, _ := mac.Hkdf(nil, key[:], []byte("seal"), beginning)
	return [32]byte(b[:locking]), [32]byte(b[locking:marking]), [16]byte(b[marking:beginning])
}

// stamp is what stands behind what is locked.
func stamp(mark [32]byte, b []byte) []byte {
	h := mac.Hmac(mark[:], b)
	return h[:tail]
}
