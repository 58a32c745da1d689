package suite_test

import (
	"bytes"
	"crypto/aes"
	"crypto/cipher"
	"crypto/ecdh"
	"crypto/ed25519"
	"crypto/hkdf"
	"crypto/hmac"
	"crypto/sha256"
	"encoding/hex"
	"slices"
	"testing"

	"missive/api"
	"missive/suite"
)

// key is that of base sixteen.
func key(t *testing.T, s string) api.Key {
	t.Helper()
	b, err := hex.DecodeString(s)
	if err != nil || len(b) != 32 {
		t.Fatalf("%q is no key", s)
	}
	return api.Key(b)
}

// hmacOf is what another program makes of key and text.
func hmacOf(key, text []byte) []byte {
	h := hmac.New(sha256.New, key)
	h.Write(text)
	return h.Sum(nil)
}

// pieces are what the key is spread to, by another program.
func pieces(t *testing.T, key api.Key) (own, mark, begin []byte) {
	t.Helper()
	b, err := hkdf.Key(sha256.New, key[:], nil, "seal", 80)
	if err != nil {
		t.Fatal(err)
	}
	return b[:32], b[32:64], b[64:]
}

// lockedBy is what another program locks by CBC; the text must be filled up already.
func lockedBy(t *testing.T, own, begin, text []byte) []byte {
	t.Helper()
	c, err := aes.NewCipher(own)
	if err != nil {
		t.Fatal(err)
	}
	b := make([]byte, len(text))
	cipher.NewCBCEncrypter(c, begin).CryptBlocks(b, text)
	return b
}

// stamped is what is locked, and behind it what shows who locked it.
func stamped(mark, b []byte) []byte { return slices.Concat(b, hmacOf(mark, b)[:16]) }

// filledUp is the text, filled up to whole blocks.
func filledUp(text []byte) []byte {
	n := 16 - len(text)%16
	return slices.Concat(text, bytes.Repeat([]byte{byte(n)}, n))
}

// sealedBy is what another program seals.
func sealedBy(t *testing.T, key api.Key, plain []byte) []byte {
	t.Helper()
	own, mark, begin := pieces(t, key)
	return stamped(mark, lockedBy(t, own, begin, filledUp(plain)))
}

// P13.2

func TestRealFreshIsTheDraw(t *testing.T) {
	s, d := suite.Real(), drawer(10)
	for _, k := range []api.Key{{}, {1}, {31: 255}, d.key(), d.key()} {
		if got := s.Fresh(k); got != k {
			t.Errorf("Fresh(%x): %x", k, got)
		}
	}
}

func TestRealPublicAndSigner(t *testing.T) {
	s, d := suite.Real(), drawer(11)
	l := []api.Key{{}, {1}, {31: 255}}
	for range 20 {
		l = append(l, d.key())
	}
	for _, k := range l {
		x, err := ecdh.X25519().NewPrivateKey(k[:])
		if err != nil {
			t.Fatal(err)
		}
		if got := s.Public(k); !bytes.Equal(got[:], x.PublicKey().Bytes()) {
			t.Errorf("Public(%x): %x, want %x", k, got, x.PublicKey().Bytes())
		}
		want := ed25519.NewKeyFromSeed(k[:]).Public().(ed25519.PublicKey)
		if got := s.Signer(k); !bytes.Equal(got[:], want) {
			t.Errorf("Signer(%x): %x, want %x", k, got, want)
		}
	}
}

// P13.3

func TestPublishedAgreement(t *testing.T) {
	s := suite.Real()
	a := key(t, "77076d0a7318a57d3c16c17251b26645df4c2f87ebc0992ab177fba51db92c2a")
	b := key(t, "5dab087e624a8a4b79e17f8b83800ee66f3bb1292618b6fd1c2f8b27ff88e0eb")
	of := key(t, "8520f0098930a754748b7ddcb43ef75a0dbf3a0d26381af4eba4a98eaa9b4e6a")
	other := key(t, "de9edb7d7b7dc1b4d35b61c2ece435373f8343c85b78674dadfc7e146f882b4f")
	common := key(t, "4a5d9d5ba4ce2de1728e3bf480350f25e07e21c947d19e3376f09b3c1e161742")
	if s.Public(a) != of || s.Public(b) != other {
		t.Errorf("Public: %x and %x", s.Public(a), s.Public(b))
	}
	if agreed(t, s, a, other) != common || agreed(t, s, b, of) != common {
		t.Errorf("Agree: %x and %x", agreed(t, s, a, other), agreed(t, s, b, of))
	}
}

func TestRealAgreements(t *testing.T) {
	s, d := suite.Real(), drawer(12)
	for range 20 {
		// Any 32 bytes are a public key, whether anybody has a secret of it or not.
		secret, public := d.key(), d.key()
		x, err := ecdh.X25519().NewPrivateKey(secret[:])
		if err != nil {
			t.Fatal(err)
		}
		y, err := ecdh.X25519().NewPublicKey(public[:])
		if err != nil {
			t.Fatal(err)
		}
		want, err := x.ECDH(y)
		if err != nil {
			t.Fatal(err)
		}
		if got := agreed(t, s, secret, public); !bytes.Equal(got[:], want) {
			t.Errorf("Agree(%x, %x): %x, want %x", secret, public, got, want)
		}
	}
}

// With a number of a low order all secrets come to zeros: that is no agreement.
func TestAgreementOfZeros(t *testing.T) {
	s, d := suite.Real(), drawer(13)
	for _, u := range []string{
		"0000000000000000000000000000000000000000000000000000000000000000",
		"0100000000000000000000000000000000000000000000000000000000000000",
		"e0eb7a7c3b41b8ae1656e3faf19fc46ada098deb9c32b1fd866205165f49b800",
		"5f9c95bca3508c24b1d0b1559c83ef5b04445cc4581c8e86d8224eddd09f1157",
		"ecffffffffffffffffffffffffffffffffffffffffffffffffffffffffffff7f",
		"edffffffffffffffffffffffffffffffffffffffffffffffffffffffffffff7f",
		"eeffffffffffffffffffffffffffffffffffffffffffffffffffffffffffff7f",
	} {
		low := key(t, u)
		topped := low
		topped[31] |= 128
		for _, secret := range []api.Key{{}, {1}, d.key()} {
			for _, public := range []api.Key{low, topped} {
				if k, ok := s.Agree(secret, public); ok || k != (api.Key{}) {
					t.Errorf("Agree(%x, %x): %x %t", secret, public, k, ok)
				}
			}
		}
	}
	// The number beside it is of no low order.
	agreed(t, s, api.Key{1}, api.Key{2})
}

// Some bytes 0 are an agreement all the same: each byte is 0 of one of these.
func TestAgreementOfSomeZeros(t *testing.T) {
	s, secret := suite.Real(), api.Key{1}
	var seen [32]bool
	for left, n := len(seen), 2; left > 0; n++ {
		if n > 10000 {
			t.Fatalf("still %d bytes that were never 0", left)
		}
		k := agreed(t, s, secret, api.Key{byte(n), byte(n >> 8)})
		for i, x := range k {
			if x == 0 && !seen[i] {
				seen[i] = true
				left--
			}
		}
	}
}

// P13.4

func TestRealSignatures(t *testing.T) {
	s, d := suite.Real(), drawer(14)
	for _, n := range []int{0, 1, 100, 4095, 4096} {
		secret, text := d.key(), d.text(n)
		k := ed25519.NewKeyFromSeed(secret[:])
		sig, signer := s.Sign(secret, text), s.Signer(secret)
		if want := ed25519.Sign(k, text); !bytes.Equal(sig[:], want) {
			t.Errorf("Sign of %d bytes: %x, want %x", n, sig, want)
		}
		for bit := 0; bit < 512; bit += 37 {
			verified(t, s, "another signature", false, signer, text, api.Sig(turned(sig[:], bit)))
		}
		for bit := 0; bit < 256; bit += 37 {
			verified(t, s, "another signer's", false, api.Key(turned(signer[:], bit)), text, sig)
		}
		for bit := 0; bit < 8*n; bit += 4001 {
			verified(t, s, "another text", false, signer, turned(text, bit), sig)
		}
		verified(t, s, "zeros", false, signer, text, api.Sig{})
	}
}

// Another program signs longer texts too: here nobody takes them.
func TestRealSignaturesOfLongTexts(t *testing.T) {
	s, d := suite.Real(), drawer(15)
	for n, want := range map[int]bool{4096: true, 4097: false, 10000: false} {
		secret, text := d.key(), d.text(n)
		sig := api.Sig(ed25519.Sign(ed25519.NewKeyFromSeed(secret[:]), text))
		verified(t, s, "another program's signature", want, s.Signer(secret), text, sig)
	}
}

// P13.5

func TestRealMixes(t *testing.T) {
	s, d := suite.Real(), drawer(16)
	fits := d.text(1024)
	for _, c := range []struct {
		parts  [][]byte
		joined []byte
	}{
		{nil, []byte{0}},
		{[][]byte{nil}, []byte{1, 0, 0}},
		{[][]byte{[]byte("a"), {}, []byte("bc")}, []byte("\x03\x00\x01a\x00\x00\x00\x02bc")},
		{[][]byte{fits}, append([]byte{1, 4, 0}, fits...)},
		{make([][]byte, 8), []byte{8, 16: 0}},
		{[][]byte{fits, nil, nil, nil, nil, nil, nil, fits}, slices.Concat([]byte{8, 4, 0}, fits, make([]byte, 12), []byte{4, 0}, fits)},
	} {
		for label := range 256 {
			got := mixed(t, s, byte(label), c.parts...)
			if want := hmacOf([]byte{byte(label)}, c.joined); !bytes.Equal(got[:], want) {
				t.Fatalf("Mix(%d) of %d parts: %x, want %x", label, len(c.parts), got, want)
			}
		}
	}
}

// P13.6

func TestRealSeals(t *testing.T) {
	s, d := suite.Real(), drawer(17)
	for _, n := range []int{0, 1, 15, 16, 17, 31, 32, 1008, 1023, 1024} {
		for _, k := range []api.Key{{}, {1}, d.key()} {
			plain := d.text(n)
			want := sealedBy(t, k, plain)
			if got := sealed(t, s, k, plain); !bytes.Equal(got, want) {
				t.Errorf("Seal of %d bytes: %x, want %x", n, got, want)
			}
			opens(t, s, k, want, plain)
		}
	}
}

// The last 16 bytes are those of the HMAC by the second piece, of all that is ahead of them.
func TestLastBytes(t *testing.T) {
	s, k := suite.Real(), api.Key{5}
	_, mark, _ := pieces(t, k)
	for _, n := range []int{0, 15, 16, 1024} {
		b := sealed(t, s, k, nines(n))
		end := len(b) - 16
		if want := hmacOf(mark, b[:end])[:16]; !bytes.Equal(b[end:], want) {
			t.Errorf("Seal of %d bytes ends with %x, want %x", n, b[end:], want)
		}
	}
}

// Who has the key can lock what Seal doesn't make: it isn't opened, though it is marked as it must be.
func TestMarkedButNoSeal(t *testing.T) {
	s, k := suite.Real(), api.Key{6}
	own, mark, begin := pieces(t, k)
	for _, n := range []int{1025, 1030, 1039, 1040, 2000, 70000} {
		closed(t, s, "a text that is too long", k, sealedBy(t, k, nines(n)))
	}
	opens(t, s, k, sealedBy(t, k, nines(1024)), nines(1024))
	// What isn't filled up as it must be.
	for _, end := range [][]byte{{0}, {17}, {255}, {1, 2}, {2, 3, 3}, {15, 16}, bytes.Repeat([]byte{32}, 32)} {
		text := append(make([]byte, 64-len(end)), end...)
		closed(t, s, "what isn't filled up", k, stamped(mark, lockedBy(t, own, begin, text)))
	}
	// What is no whole number of blocks, or none at all.
	whole := lockedBy(t, own, begin, filledUp(nines(40)))
	for n := range len(whole) {
		if n%16 != 0 || n == 0 {
			closed(t, s, "no whole blocks", k, stamped(mark, whole[:n]))
		}
	}
	// The mark of another key, of another beginning of it, or its other half.
	_, other, _ := pieces(t, api.Key{7})
	closed(t, s, "another key's mark", k, stamped(other, whole))
	closed(t, s, "another half", k, slices.Concat(whole, hmacOf(mark, whole)[16:]))
	closed(t, s, "the whole mark", k, slices.Concat(whole, hmacOf(mark, whole)))
	closed(t, s, "no mark", k, whole)
	opens(t, s, k, stamped(mark, whole), nines(40))
}
