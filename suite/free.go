package suite

import (
	"bytes"

	"missive/api"
	"missive/octet"
	"missive/term"
)

// name is that of the term of the kind that has the key as its one part; zero, if it can't be made.
func (s Suite) name(kind int, part api.Key) api.Key {
	k, _ := s.table.Make(kind, part[:])
	return k
}

// share is the name of what the secret and the public key have in common.
func (s Suite) share(secret, public api.Key) (api.Key, bool) {
	other, ok := s.secret(public)
	if !ok {
		return s.table.Make(term.Odd, secret[:], public[:])
	}
	// One order for both ways round: each of the two has the other's secret as the second one.
	if bytes.Compare(other[:], secret[:]) < 0 {
		secret, other = other, secret
	}
	return s.table.Make(term.Shared, secret[:], other[:])
}

// secret is that of the public key, and whether it is one that a secret has.
func (s Suite) secret(public api.Key) (api.Key, bool) {
	parts := s.parts(public, term.Public, 1)
	if parts == nil {
		return api.Key{}, false
	}
	return octet.Key(parts[0])
}

// write is the secret's signature under the text; zero, if it can't be made.
func (s Suite) write(secret api.Key, text []byte) (sig api.Sig) {
	k, _ := s.table.Make(term.Signed, secret[:], text)
	copy(sig[:], k[:])
	return sig
}

// wrote tells whether the signature under the text is the signer's.
func (s Suite) wrote(signer api.Key, text []byte, sig api.Sig) bool {
	name := api.Key(sig[:len(signer)])
	signed, secret := s.parts(name, term.Signed, 2), s.parts(signer, term.Signer, 1)
	if signed == nil || secret == nil {
		return false
	}
	return bytes.Equal(signed[0], secret[0]) && bytes.Equal(signed[1], text) && filled(name, sig[:])
}

// cover is the plain text, sealed by the key.
func (s Suite) cover(key api.Key, plain []byte) ([]byte, bool) {
	k, ok := s.table.Make(term.Sealed, key[:], plain)
	if !ok {
		return nil, false
	}
	sealed := make([]byte, Size(len(plain)))
	copy(sealed, k[:])
	return sealed, true
}

// uncover is the plain text that cover took with the key, and whether there is one.
func (s Suite) uncover(key api.Key, sealed []byte) ([]byte, bool) {
	if len(sealed) < len(key) {
		return nil, false
	}
	name := api.Key(sealed)
	parts := s.parts(name, term.Sealed, 2)
	if parts == nil || !bytes.Equal(parts[0], key[:]) {
		return nil, false
	}
	// Of a text that is too long Size is 0, and nothing has that size here.
	if len(sealed) != Size(len(parts[1])) || !filled(name, sealed) {
		return nil, false
	}
	return parts[1], true
}

// parts are those of the term whose name k is, if it is of that kind and has that many; else none.
func (s Suite) parts(k api.Key, kind, n int) [][]byte {
	is, parts, _ := s.table.Of(k)
	if is != kind || len(parts) != n {
		return nil
	}
	return parts
}

// filled tells whether b is the name and bytes 0.
func filled(name api.Key, b []byte) bool {
	want := make([]byte, len(b))
	copy(want, name[:])
	return bytes.Equal(b, want)
}
