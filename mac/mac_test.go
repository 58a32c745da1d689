package mac_test

import (
	"bytes"
	"crypto/hkdf"
	"crypto/hmac"
	"crypto/sha256"
	"encoding/hex"
	"math"
	"strings"
	"testing"

	"missive/mac"
)

// most is the greatest number of bytes that Hkdf makes.
const most = 8160

// row is n bytes, no two neighbours alike, so that one that is moved or left out shows.
func row(n, from int) []byte {
	b := make([]byte, n)
	for i := range b {
		b[i] = byte(from + 7*i + i/256)
	}
	return b
}

// unhex reads bytes that are written in base sixteen.
func unhex(t *testing.T, s string) []byte {
	t.Helper()
	b, err := hex.DecodeString(s)
	if err != nil {
		t.Fatal(err)
	}
	return b
}

// wanted is the HMAC that another program tells.
func wanted(key, text []byte) [32]byte {
	h := hmac.New(sha256.New, key)
	h.Write(text)
	return [32]byte(h.Sum(nil))
}

// stretched is the HKDF that another program tells.
func stretched(t *testing.T, salt, from, info []byte, n int) []byte {
	t.Helper()
	b, err := hkdf.Key(sha256.New, from, salt, string(info), n)
	if err != nil {
		t.Fatal(err)
	}
	return b
}

// made asks for n bytes of Hkdf that there must be.
func made(t *testing.T, salt, from, info []byte, n int) []byte {
	t.Helper()
	b, ok := mac.Hkdf(salt, from, info, n)
	if !ok || len(b) != n {
		t.Fatalf("Hkdf of %d, %d and %d bytes, %d: %d bytes, %v", len(salt), len(from), len(info), n, len(b), ok)
	}
	return b
}

// P4.1

func TestKnownHmacs(t *testing.T) {
	for _, c := range []struct{ key, text, want string }{
		{"", "", "b613679a0814d9ec772f95d778c35fc5ff1697c493715653c6c712144292c5ad"},
		{"key", "The quick brown fox jumps over the lazy dog", "f7bc83f430538424b13298e6aa6fb143ef4d59a14946175997479dbc2d1a3cd8"},
		{strings.Repeat("\x0b", 20), "Hi There", "b0344c61d8db38535ca8afceaf0bf12b881dc200c9833da726e9376c2e32cff7"},
		{"Jefe", "what do ya want for nothing?", "5bdcc146bf60754e6a042426089575c75a003f089d2739839dec58b964ec3843"},
		{strings.Repeat("\xaa", 20), strings.Repeat("\xdd", 50), "773ea91e36800e46854db8ebd09181a72959098b3ef8c122d9635514ced565fe"},
		{strings.Repeat("\xaa", 131), "Test Using Larger Than Block-Size Key - Hash Key First", "60e431591ee0b67f0d8a26aacbf5b77f8e0bc6213728c5140546040f0ee37f54"},
		{
			strings.Repeat("\xaa", 131),
			"This is a test using a larger than block-size key and a larger than block-size data. The key needs to be hashed before being used by the HMAC algorithm.",
			"9b09ffa71b942fcb27635fbcd5b0e944bfdc63644f0713938a7f51535c3a35e2",
		},
	} {
		if got := mac.Hmac([]byte(c.key), []byte(c.text)); hex.EncodeToString(got[:]) != c.want {
			t.Errorf("Hmac(%q, %q): %x, want %s", c.key, c.text, got, c.want)
		}
	}
}

func TestHmacOfEachLength(t *testing.T) {
	texts := []int{0, 1, 31, 54, 55, 56, 63, 64, 65, 119, 120, 127, 128, 129, 1000}
	for key := range 200 {
		for _, text := range texts {
			k, x := row(key, 3), row(text, 100)
			if got, want := mac.Hmac(k, x), wanted(k, x); got != want {
				t.Fatalf("Hmac of a key of %d bytes and a text of %d: %x, want %x", key, text, got, want)
			}
		}
	}
	for _, key := range []int{0, 63, 64, 65, 1000, 100000} {
		for text := range 200 {
			k, x := row(key, 5), row(text, 9)
			if got, want := mac.Hmac(k, x), wanted(k, x); got != want {
				t.Fatalf("Hmac of a key of %d bytes and a text of %d: %x, want %x", key, text, got, want)
			}
		}
	}
}

func TestHmacOfNothing(t *testing.T) {
	empty := mac.Hmac(nil, nil)
	if mac.Hmac([]byte{}, []byte{}) != empty || mac.Hmac(make([]byte, 32), nil) != empty {
		t.Error("Hmac: nil, no bytes and 32 bytes 0 as a key of no text are unlike")
	}
	if mac.Hmac([]byte{1}, nil) == empty || mac.Hmac(nil, []byte{0}) == empty {
		t.Error("Hmac: a byte doesn't matter")
	}
}

func TestKnownHkdfs(t *testing.T) {
	count := func(from, n int) (b []byte) {
		for i := range n {
			b = append(b, byte(from+i))
		}
		return b
	}
	old := bytes.Repeat([]byte{0x0b}, 22)
	for _, c := range []struct {
		salt, from, info []byte
		want             string
	}{
		{count(0, 13), old, count(0xf0, 10), "3cb25f25faacd57a90434f64d0362f2a2d2d0a90cf1a5a4c5db02d56ecc4c5bf34007208d5b887185865"},
		{
			count(0x60, 80), count(0, 80), count(0xb0, 80),
			"b11e398dc80327a1c8e7f78c596a49344f012eda2d4efad8a050cc4c19afa97c59045a99cac7827271cb41c65e590e09da3275600c2f09b8367793a9aca3db71cc30c58179ec3e87c14c01d5c1f3434f1d87",
		},
		{nil, old, nil, "8da4e775a563c18f715f802a063c5a31b8a11f5c5ee1879ec3454e5f3c738d2d9d201395faa4b61a96c8"},
	} {
		want := unhex(t, c.want)
		if got := made(t, c.salt, c.from, c.info, len(want)); !bytes.Equal(got, want) {
			t.Errorf("Hkdf(%x, %x, %x): %x, want %x", c.salt, c.from, c.info, got, want)
		}
	}
}

func TestHkdfOfEachLength(t *testing.T) {
	lengths := []int{0, 1, 31, 32, 33, 63, 64, 65, 200}
	for _, salt := range lengths {
		for _, from := range lengths {
			for _, info := range lengths {
				s, f, i := row(salt, 1), row(from, 2), row(info, 3)
				want := stretched(t, s, f, i, 100)
				if got := made(t, s, f, i, 100); !bytes.Equal(got, want) {
					t.Fatalf("Hkdf of %d, %d and %d bytes: %x, want %x", salt, from, info, got, want)
				}
			}
		}
	}
}

func TestHkdfOfEachSize(t *testing.T) {
	s, f, i := row(20, 1), row(32, 2), row(40, 3)
	sizes := []int{1023, 1024, 1025, 4095, 4096, 4097, most - 33, most - 32, most - 31, most - 1, most}
	for n := range 300 {
		sizes = append(sizes, n)
	}
	for _, n := range sizes {
		if got := made(t, s, f, i, n); !bytes.Equal(got, stretched(t, s, f, i, n)) {
			t.Fatalf("Hkdf, %d: %x", n, got)
		}
	}
}

func TestHkdfTakesOnlyItsSizes(t *testing.T) {
	for _, n := range []int{-1, -32, math.MinInt, most + 1, most + 32, 1 << 16, 1 << 32, math.MaxInt} {
		if b, ok := mac.Hkdf(row(3, 1), row(4, 1), row(5, 1), n); ok || len(b) != 0 {
			t.Errorf("Hkdf, %d: %d bytes, %v, want none and false", n, len(b), ok)
		}
		if b, ok := mac.Hkdf(nil, nil, nil, n); ok || len(b) != 0 {
			t.Errorf("Hkdf of nothing, %d: %d bytes, %v, want none and false", n, len(b), ok)
		}
	}
	for _, n := range []int{0, 1, 31, 32, 33, most - 1, most} {
		made(t, nil, nil, nil, n)
		made(t, row(100, 1), row(100, 2), row(100, 3), n)
	}
}

func TestHkdfOfNothing(t *testing.T) {
	a, b := made(t, nil, nil, nil, 100), made(t, []byte{}, []byte{}, []byte{}, 100)
	if !bytes.Equal(a, b) || !bytes.Equal(a, stretched(t, nil, nil, nil, 100)) {
		t.Error("Hkdf: nil and no bytes are unlike")
	}
	for _, other := range [][]byte{
		made(t, []byte{1}, nil, nil, 100), made(t, nil, []byte{0}, nil, 100), made(t, nil, nil, []byte{0}, 100),
	} {
		if bytes.Equal(a, other) {
			t.Error("Hkdf: a byte doesn't matter")
		}
	}
}

// P4.2

func TestSame(t *testing.T) {
	for _, n := range []int{0, 1, 2, 3, 7, 8, 9, 31, 32, 33, 64, 100, 257, 1000} {
		a := row(n, 1)
		if !mac.Same(a, bytes.Clone(a)) || !mac.Same(a, a) {
			t.Errorf("Same: %d bytes are unlike themselves", n)
		}
		if mac.Same(a, append(bytes.Clone(a), 0)) || mac.Same(append(bytes.Clone(a), 0), a) {
			t.Errorf("Same: %d bytes and one more are the same", n)
		}
		if n > 0 && (mac.Same(a, nil) || mac.Same(nil, a) || mac.Same(a, a[1:]) || mac.Same(a[:n-1], a)) {
			t.Errorf("Same: %d bytes and fewer are the same", n)
		}
	}
	if !mac.Same(nil, nil) || !mac.Same(nil, []byte{}) || !mac.Same([]byte{}, nil) {
		t.Error("Same: no bytes are unlike no bytes")
	}
}

func TestSameSeesEachBit(t *testing.T) {
	for _, n := range []int{1, 2, 8, 32, 33, 64, 300} {
		a := row(n, 5)
		for i := range n {
			for bit := range 8 {
				b := bytes.Clone(a)
				b[i] ^= 1 << bit
				if mac.Same(a, b) || mac.Same(b, a) {
					t.Fatalf("Same: %d bytes, unlike in the bit %d of byte %d, are the same", n, bit, i)
				}
			}
		}
	}
}

func TestSameOfBytesThatAreUnlikeAtTwoPlaces(t *testing.T) {
	// What is unlike at one place must not be undone by what is unlike at another one.
	a := row(32, 5)
	for i := range a {
		for j := range i {
			for _, x := range []byte{1, 128, 255} {
				b := bytes.Clone(a)
				b[i] ^= x
				b[j] ^= x
				c := bytes.Clone(a)
				c[i] += x
				c[j] -= x
				if mac.Same(a, b) || mac.Same(a, c) {
					t.Fatalf("Same: bytes that are unlike at %d and %d are the same", i, j)
				}
			}
		}
	}
	if mac.Same([]byte("ab"), []byte("ba")) || mac.Same(make([]byte, 256), bytes.Repeat([]byte{1}, 256)) {
		t.Error("Same: unlike bytes are the same")
	}
}

// P4.3

func TestBytesBehindAShortKey(t *testing.T) {
	for n := range 65 {
		for _, text := range [][]byte{nil, []byte("text"), row(100, 1)} {
			key := row(n, 1)
			want := mac.Hmac(key, text)
			for more := n; more <= 64; more++ {
				if mac.Hmac(append(bytes.Clone(key), make([]byte, more-n)...), text) != want {
					t.Fatalf("Hmac: a key of %d bytes and the same with 0 up to %d are unlike", n, more)
				}
			}
			if mac.Hmac(append(bytes.Clone(key), make([]byte, 65-n)...), text) == want {
				t.Fatalf("Hmac: a key of %d bytes and the same with 0 up to 65 are alike", n)
			}
		}
	}
}

func TestHashOfALongKey(t *testing.T) {
	for _, n := range []int{65, 66, 100, 127, 128, 129, 1000, 100000} {
		for _, text := range [][]byte{nil, []byte("text"), row(100, 1)} {
			h := sha256.Sum256(row(n, 1))
			if mac.Hmac(row(n, 1), text) != mac.Hmac(h[:], text) {
				t.Errorf("Hmac: a key of %d bytes and its hash are unlike", n)
			}
		}
	}
	for _, n := range []int{0, 1, 32, 63, 64} {
		h := sha256.Sum256(row(n, 1))
		if mac.Hmac(row(n, 1), nil) == mac.Hmac(h[:], nil) {
			t.Errorf("Hmac: a key of %d bytes and its hash are alike", n)
		}
	}
}

func TestAShorterHkdf(t *testing.T) {
	for _, c := range [][3][]byte{{nil, nil, nil}, {row(10, 1), row(20, 2), row(30, 3)}, {row(100, 1), row(100, 2), row(100, 3)}} {
		long := made(t, c[0], c[1], c[2], most)
		for n := 0; n < most; n += 1 + n/20 {
			if !bytes.Equal(made(t, c[0], c[1], c[2], n), long[:n]) {
				t.Fatalf("Hkdf, %d, is no beginning of a longer one", n)
			}
		}
	}
}

// Rules that hold everywhere.

func TestArgumentsAreLeft(t *testing.T) {
	for _, n := range []int{0, 1, 32, 63, 64, 65, 200} {
		a, b, c := row(n+80, 1), row(n+80, 2), row(n+80, 3)
		mac.Hmac(a[:n], b[:n])
		made(t, a[:n], b[:n], c[:n], 100)
		mac.Same(a[:n], b[:n])
		if !bytes.Equal(a, row(n+80, 1)) || !bytes.Equal(b, row(n+80, 2)) || !bytes.Equal(c, row(n+80, 3)) {
			t.Errorf("an argument of %d bytes, or what is behind it, was changed", n)
		}
	}
}

func TestAnswersAreNew(t *testing.T) {
	a, b, c := row(40, 1), row(50, 2), row(60, 3)
	want := stretched(t, a, b, c, 70)
	first := made(t, a, b, c, 70)
	second := made(t, a, b, c, 70)
	clear(second[:cap(second)])
	if !bytes.Equal(first, want) {
		t.Error("Hkdf: two answers share memory")
	}
	clear(first[:cap(first)])
	if !bytes.Equal(a, row(40, 1)) || !bytes.Equal(b, row(50, 2)) || !bytes.Equal(c, row(60, 3)) {
		t.Error("Hkdf: an answer shares memory with an argument")
	}
	if !bytes.Equal(made(t, a, b, c, 70), want) {
		t.Error("Hkdf: an answer shares memory with what is kept")
	}
}

func TestOneListAsAllArguments(t *testing.T) {
	a := row(70, 1)
	if mac.Hmac(a, a) != wanted(a, a) {
		t.Error("Hmac of one list as both arguments")
	}
	if !bytes.Equal(made(t, a, a, a, 100), stretched(t, a, a, a, 100)) {
		t.Error("Hkdf of one list as all arguments")
	}
}
