package aes_test

import (
	other "crypto/aes"
	"crypto/cipher"
	"encoding/hex"
	"testing"

	"missive/aes"
)

// drawer makes bytes that look like thrown ones, the same each time.
type drawer uint64

func (d *drawer) fill(b []byte) {
	for i := range b {
		*d = *d*6364136223846793005 + 1442695040888963407
		b[i] = byte(*d >> 56)
	}
}

func (d *drawer) key() (k [32]byte) {
	d.fill(k[:])
	return k
}

func (d *drawer) block() (b [16]byte) {
	d.fill(b[:])
	return b
}

// unhex reads bytes that are written in base sixteen.
func unhex(t *testing.T, s string, n int) []byte {
	t.Helper()
	b, err := hex.DecodeString(s)
	if err != nil || len(b) != n {
		t.Fatalf("%q: %d bytes, %v", s, len(b), err)
	}
	return b
}

// reference is the cipher of another program.
func reference(t *testing.T, key [32]byte) cipher.Block {
	t.Helper()
	c, err := other.NewCipher(key[:])
	if err != nil {
		t.Fatal(err)
	}
	return c
}

// right asks a cipher of the key for the block, locked and unlocked.
func right(t *testing.T, c *aes.Cipher, r cipher.Block, block [16]byte, what string) {
	t.Helper()
	var locked, unlocked [16]byte
	r.Encrypt(locked[:], block[:])
	r.Decrypt(unlocked[:], block[:])
	if got := c.Lock(block); got != locked {
		t.Fatalf("%s: Lock(%x): %x, want %x", what, block, got, locked)
	}
	if got := c.Unlock(block); got != unlocked {
		t.Fatalf("%s: Unlock(%x): %x, want %x", what, block, got, unlocked)
	}
}

// alike asks a new cipher of the key for the block.
func alike(t *testing.T, key [32]byte, block [16]byte, what string) {
	t.Helper()
	right(t, aes.New(key), reference(t, key), block, what)
}

// bits are n bytes with one bit set in each place, one list a place.
func bits(n int) (l [][]byte) {
	for i := range 8 * n {
		b := make([]byte, n)
		b[i/8] = 1 << (i % 8)
		l = append(l, b)
	}
	return l
}

// full is n bytes 255.
func full(n int) []byte {
	b := make([]byte, n)
	for i := range b {
		b[i] = 255
	}
	return b
}

// P5.1

func TestKnownBlocks(t *testing.T) {
	const (
		count = "000102030405060708090a0b0c0d0e0f101112131415161718191a1b1c1d1e1f"
		drawn = "603deb1015ca71be2b73aef0857d77811f352c073b6108d72d9810a30914dff4"
		zero  = "0000000000000000000000000000000000000000000000000000000000000000"
	)
	for _, c := range []struct{ key, block, locked string }{
		{count, "00112233445566778899aabbccddeeff", "8ea2b7ca516745bfeafc49904b496089"},
		{drawn, "6bc1bee22e409f96e93d7e117393172a", "f3eed1bdb5d2a03c064b5a7e3db181f8"},
		{drawn, "ae2d8a571e03ac9c9eb76fac45af8e51", "591ccb10d410ed26dc5ba74a31362870"},
		{drawn, "30c81c46a35ce411e5fbc1191a0a52ef", "b6ed21b99ca6f4f9f153e7b1beafed1d"},
		{drawn, "f69f2445df4f9b17ad2b417be66c3710", "23304b7a39f9f3ff067d8d8f9e24ecc7"},
		{zero, "00000000000000000000000000000000", "dc95c078a2408989ad48a21492842087"},
		{zero, "80000000000000000000000000000000", "ddc6bf790c15760d8d9aeb6f9a75fd4e"},
		{zero, "014730f80ac625fe84f026c60bfd547d", "5c9d844ed46f9885085e5d6a4f94c7d7"},
		{"8000000000000000000000000000000000000000000000000000000000000000", "00000000000000000000000000000000", "e35a6dcb19b201a01ebcfa8aa22b5759"},
	} {
		key, block, want := [32]byte(unhex(t, c.key, 32)), [16]byte(unhex(t, c.block, 16)), [16]byte(unhex(t, c.locked, 16))
		if got := aes.New(key).Lock(block); got != want {
			t.Errorf("key %s: Lock(%s): %x, want %s", c.key, c.block, got, c.locked)
		}
		if got := aes.New(key).Unlock(want); got != block {
			t.Errorf("key %s: Unlock(%s): %x, want %s", c.key, c.locked, got, c.block)
		}
	}
}

func TestPlainKeysAndBlocks(t *testing.T) {
	keys := append(bits(32), make([]byte, 32), full(32))
	blocks := append(bits(16), make([]byte, 16), full(16))
	for _, k := range keys {
		key := [32]byte(k)
		c, r := aes.New(key), reference(t, key)
		for _, b := range blocks {
			right(t, c, r, [16]byte(b), "a key or a block of one bit, or of bytes alike")
		}
	}
}

// Each byte is taken through S and its contrary in each place: ahead of the first round and behind the last one, where nothing hides one byte behind others.
func TestEachByteInEachPlace(t *testing.T) {
	d := drawer(1)
	zero, some := [32]byte{}, d.key()
	base := d.block()
	for _, key := range [][32]byte{zero, some} {
		c, r := aes.New(key), reference(t, key)
		for at := range 16 {
			for x := range 256 {
				block := base
				block[at] = byte(x)
				right(t, c, r, block, "a byte in a place")
			}
		}
	}
}

func TestEachByteOfKeysInEachPlace(t *testing.T) {
	d := drawer(2)
	base, block := d.key(), d.block()
	for at := range 32 {
		for x := range 256 {
			key := base
			key[at] = byte(x)
			alike(t, key, block, "a byte in a place of the key")
		}
	}
}

func TestBytesAlike(t *testing.T) {
	for x := range 256 {
		var key [32]byte
		var block [16]byte
		for i := range key {
			key[i] = byte(x)
			block[i/2] = byte(x)
		}
		// Where key and block are alike, the first round begins with bytes 0, whose inverse is 0.
		alike(t, key, block, "all bytes alike")
	}
}

func TestRowsAndColumns(t *testing.T) {
	d := drawer(3)
	key := d.key()
	c, r := aes.New(key), reference(t, key)
	for range 50 {
		base := d.block()
		for i := range 4 {
			var row, column [16]byte
			for j := range 4 {
				row[i+4*j] = base[i+4*j]
				column[j+4*i] = base[j+4*i]
			}
			right(t, c, r, row, "one row")
			right(t, c, r, column, "one column")
		}
	}
}

func TestDrawnKeysAndBlocks(t *testing.T) {
	d := drawer(4)
	for range 2000 {
		key := d.key()
		c, r := aes.New(key), reference(t, key)
		for range 4 {
			right(t, c, r, d.block(), "drawn")
		}
	}
}

// What a cipher did ahead of it, and what others do meanwhile, doesn't change what it answers.
func TestSideBySide(t *testing.T) {
	d := drawer(5)
	var keys [8][32]byte
	var ciphers [8]*aes.Cipher
	for i := range keys {
		keys[i] = d.key()
		ciphers[i] = aes.New(keys[i])
	}
	first := d.block()
	var locked [8][16]byte
	for i, c := range ciphers {
		locked[i] = c.Lock(first)
		for j := range i {
			if locked[i] == locked[j] {
				t.Fatalf("the keys %x and %x lock alike", keys[i], keys[j])
			}
		}
	}
	for n := range 200 {
		i := n * 3 % len(keys)
		right(t, ciphers[i], reference(t, keys[i]), d.block(), "side by side")
	}
	for i, c := range ciphers {
		if got := c.Lock(first); got != locked[i] {
			t.Errorf("locked again, %x is %x; it was %x", first, got, locked[i])
		}
		if got := c.Unlock(locked[i]); got != first {
			t.Errorf("unlocked at last, %x is %x, want %x", locked[i], got, first)
		}
		if aes.New(keys[i]).Lock(first) != locked[i] {
			t.Errorf("a second cipher of the key %x locks otherwise", keys[i])
		}
	}
}

func TestWhatIsHandedIn(t *testing.T) {
	d := drawer(6)
	key, block := d.key(), d.block()
	k, b := key, block
	c := aes.New(k)
	locked := c.Lock(b)
	back := c.Unlock(locked)
	if k != key || b != block {
		t.Fatal("the key or the block is changed")
	}
	clear(k[:])
	clear(b[:])
	kept, mine := locked, locked
	clear(mine[:])
	clear(back[:])
	if c.Lock(block) != kept || c.Unlock(kept) != block || locked != kept {
		t.Error("what is changed behind a call changes the cipher or an answer")
	}
}

// P5.2

func TestThereAndBack(t *testing.T) {
	d := drawer(7)
	for range 1000 {
		key := d.key()
		c := aes.New(key)
		for range 4 {
			block := d.block()
			if got := c.Unlock(c.Lock(block)); got != block {
				t.Fatalf("key %x: Unlock of Lock of %x: %x", key, block, got)
			}
			if got := c.Lock(c.Unlock(block)); got != block {
				t.Fatalf("key %x: Lock of Unlock of %x: %x", key, block, got)
			}
		}
	}
}

func TestThereAndBackOfPlainOnes(t *testing.T) {
	blocks := append(bits(16), make([]byte, 16), full(16))
	for _, k := range [][]byte{make([]byte, 32), full(32)} {
		c := aes.New([32]byte(k))
		for _, b := range blocks {
			block := [16]byte(b)
			if c.Unlock(c.Lock(block)) != block || c.Lock(c.Unlock(block)) != block {
				t.Errorf("key %x: %x doesn't come back", k, block)
			}
		}
	}
}

// Locked many times and unlocked as many times, a block is as it was, and no two on the way are alike.
func TestManyTimes(t *testing.T) {
	d := drawer(8)
	c := aes.New(d.key())
	first := d.block()
	seen := map[[16]byte]bool{}
	block := first
	for range 1000 {
		if seen[block] {
			t.Fatalf("%x comes twice", block)
		}
		seen[block] = true
		block = c.Lock(block)
	}
	for range 1000 {
		block = c.Unlock(block)
	}
	if block != first {
		t.Errorf("%x came back as %x", first, block)
	}
}
