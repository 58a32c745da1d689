package cbc_test

import (
	"bytes"
	other "crypto/aes"
	"crypto/cipher"
	"encoding/hex"
	"math"
	"slices"
	"testing"

	"missive/cbc"
)

// drawer makes bytes that look like thrown ones, the same each time.
type drawer uint64

func (d *drawer) bytes(n int) []byte {
	b := make([]byte, n)
	for i := range b {
		*d = *d*6364136223846793005 + 1442695040888963407
		b[i] = byte(*d >> 56)
	}
	return b
}

func (d *drawer) key() [32]byte   { return [32]byte(d.bytes(32)) }
func (d *drawer) begin() [16]byte { return [16]byte(d.bytes(16)) }

// lengths are those around the bounds of blocks, and some long ones.
func lengths() []int {
	var l []int
	for n := range 100 {
		l = append(l, n)
	}
	return append(l, 255, 256, 257, 1023, 1024, 1025, 4095, 4096, 4097, 65535, 65536, 100003)
}

// alike is n bytes x.
func alike(x byte, n int) []byte { return bytes.Repeat([]byte{x}, n) }

// unhex reads bytes that are written in base sixteen.
func unhex(t *testing.T, s string) []byte {
	t.Helper()
	b, err := hex.DecodeString(s)
	if err != nil {
		t.Fatal(err)
	}
	return b
}

// reference is the block cipher of another program.
func reference(t *testing.T, key [32]byte) cipher.Block {
	t.Helper()
	c, err := other.NewCipher(key[:])
	if err != nil {
		t.Fatal(err)
	}
	return c
}

// lockWhole locks blocks, filled up or not, as another program does.
func lockWhole(t *testing.T, key [32]byte, begin [16]byte, blocks []byte) []byte {
	t.Helper()
	b := make([]byte, len(blocks))
	cipher.NewCBCEncrypter(reference(t, key), begin[:]).CryptBlocks(b, blocks)
	return b
}

// unlockWhole unlocks blocks, and leaves on what fills them up.
func unlockWhole(t *testing.T, key [32]byte, begin [16]byte, b []byte) []byte {
	t.Helper()
	blocks := make([]byte, len(b))
	cipher.NewCBCDecrypter(reference(t, key), begin[:]).CryptBlocks(blocks, b)
	return blocks
}

// filled is the text, filled up.
func filled(text []byte) []byte {
	n := 16 - len(text)%16
	return slices.Concat(text, alike(byte(n), n))
}

// wantUnlock is what Unlock must answer, by another program.
func wantUnlock(t *testing.T, key [32]byte, begin [16]byte, b []byte) ([]byte, bool) {
	t.Helper()
	if len(b) == 0 || len(b)%16 != 0 {
		return nil, false
	}
	blocks := unlockWhole(t, key, begin, b)
	for n := 1; n <= 16; n++ {
		if text := blocks[:len(blocks)-n]; bytes.Equal(filled(text), blocks) {
			return text, true
		}
	}
	return nil, false
}

// rightLock asks for a text, locked, and for the text again.
func rightLock(t *testing.T, key [32]byte, begin [16]byte, text []byte, what string) {
	t.Helper()
	want := lockWhole(t, key, begin, filled(text))
	locked := cbc.Lock(key, begin, text)
	if !bytes.Equal(locked, want) {
		t.Fatalf("%s: Lock of %d bytes: %x, want %x", what, len(text), locked, want)
	}
	if got, ok := cbc.Unlock(key, begin, locked); !ok || !bytes.Equal(got, text) {
		t.Fatalf("%s: Unlock of Lock of %x: %x, %v", what, text, got, ok)
	}
	if n := cbc.Size(len(text)); n != len(locked) {
		t.Fatalf("%s: Size(%d): %d, and Lock makes %d", what, len(text), n, len(locked))
	}
}

// rightUnlock asks for bytes, unlocked, and for them again where they are a text's.
func rightUnlock(t *testing.T, key [32]byte, begin [16]byte, b []byte, what string) bool {
	t.Helper()
	want, fine := wantUnlock(t, key, begin, b)
	got, ok := cbc.Unlock(key, begin, b)
	if ok != fine || !bytes.Equal(got, want) {
		t.Fatalf("%s: Unlock(%x): %x, %v, want %x, %v", what, b, got, ok, want, fine)
	}
	if !ok && len(got) > 0 {
		t.Fatalf("%s: Unlock(%x): %x beside a false", what, b, got)
	}
	if again := cbc.Lock(key, begin, got); ok && !bytes.Equal(again, b) {
		t.Fatalf("%s: Lock of what Unlock took: %x, want %x", what, again, b)
	}
	return ok
}

// refused asks for bytes that are no text's.
func refused(t *testing.T, key [32]byte, begin [16]byte, b []byte, what string) {
	t.Helper()
	if got, ok := cbc.Unlock(key, begin, b); ok || len(got) > 0 {
		t.Fatalf("%s: Unlock of %d bytes: %x, %v, want none, false", what, len(b), got, ok)
	}
}

// P6.1

const (
	knownKey   = "603deb1015ca71be2b73aef0857d77811f352c073b6108d72d9810a30914dff4"
	knownBegin = "000102030405060708090a0b0c0d0e0f"
	knownText  = "6bc1bee22e409f96e93d7e117393172aae2d8a571e03ac9c9eb76fac45af8e51" +
		"30c81c46a35ce411e5fbc1191a0a52eff69f2445df4f9b17ad2b417be66c3710"
	knownLocked = "f58c4c04d6e5f1ba779eabfb5f7bfbd69cfc4e967edb808d679f777bc6702c7d" +
		"39f23369a9d9bacfa530e26304231461b2eb05e2c39be9fcda6c19078c6a9d1b"
)

// The published answers have no filling: the block behind them is the filling's own.
func TestKnownTexts(t *testing.T) {
	key, begin := [32]byte(unhex(t, knownKey)), [16]byte(unhex(t, knownBegin))
	text, locked := unhex(t, knownText), unhex(t, knownLocked)
	for n := 0; n <= len(text); n += 16 {
		got := cbc.Lock(key, begin, text[:n])
		if len(got) != n+16 || !bytes.Equal(got[:n], locked[:n]) {
			t.Errorf("Lock of %d bytes: %x, want %x and 16 bytes more", n, got, locked[:n])
		}
		back, ok := cbc.Unlock(key, begin, got)
		if !ok || !bytes.Equal(back, text[:n]) {
			t.Errorf("Unlock of %x: %x, %v, want %x", got, back, ok, text[:n])
		}
	}
	refused(t, key, begin, locked, "a text that isn't filled up")
}

// One block by hand: filled up by 16 bytes 16 and taken with a beginning of bytes 16, it is a block of bytes 0, whose answer under the key 0 is published.
func TestKnownFilling(t *testing.T) {
	begin, want := [16]byte(alike(16, 16)), unhex(t, "dc95c078a2408989ad48a21492842087")
	if got := cbc.Lock([32]byte{}, begin, nil); !bytes.Equal(got, want) {
		t.Errorf("Lock of no byte: %x, want %x", got, want)
	}
	if got, ok := cbc.Unlock([32]byte{}, begin, want); !ok || len(got) != 0 {
		t.Errorf("Unlock(%x): %x, %v, want no byte, true", want, got, ok)
	}
	begin = [16]byte(alike(15, 16))
	begin[0] = 'a'
	if got := cbc.Lock([32]byte{}, begin, []byte("a")); !bytes.Equal(got, want) {
		t.Errorf("Lock of a: %x, want %x", got, want)
	}
	begin = [16]byte(append([]byte("fifteen letters")[:15], 1))
	if got := cbc.Lock([32]byte{}, begin, []byte("fifteen letters")); !bytes.Equal(got, want) {
		t.Errorf("Lock of 15 bytes: %x, want %x", got, want)
	}
}

func TestEachLength(t *testing.T) {
	d := drawer(1)
	for _, n := range lengths() {
		rightLock(t, d.key(), d.begin(), d.bytes(n), "drawn")
	}
}

func TestBytesAlike(t *testing.T) {
	ends := []byte{0, 255}
	for _, k := range ends {
		for _, b := range ends {
			for _, x := range ends {
				for n := range 50 {
					rightLock(t, [32]byte(alike(k, 32)), [16]byte(alike(b, 16)), alike(x, n), "bytes alike")
				}
			}
		}
	}
}

// What looks like filling, but is the text's own, stays.
func TestTextsThatEndAsFillingDoes(t *testing.T) {
	d := drawer(2)
	for x := range 18 {
		for many := 1; many <= 33; many++ {
			for _, n := range []int{0, 1, 15, 16, 17, 32 - x} {
				rightLock(t, d.key(), d.begin(), append(d.bytes(n), alike(byte(x), many)...), "an end as filling")
			}
		}
	}
}

func TestNilIsNoByte(t *testing.T) {
	d := drawer(3)
	key, begin := d.key(), d.begin()
	if a, b := cbc.Lock(key, begin, nil), cbc.Lock(key, begin, []byte{}); len(a) != 16 || !bytes.Equal(a, b) {
		t.Errorf("Lock of nil %x, of no byte %x", a, b)
	}
	refused(t, key, begin, nil, "nil")
	refused(t, key, begin, []byte{}, "no byte")
}

func TestLengthsThatNoTextMakes(t *testing.T) {
	d := drawer(4)
	key, begin := d.key(), d.begin()
	locked := cbc.Lock(key, begin, d.bytes(100))
	for n := range len(locked) {
		if n%16 != 0 {
			refused(t, key, begin, locked[:n], "cut")
			refused(t, key, begin, locked[len(locked)-n:], "cut ahead")
			refused(t, key, begin, d.bytes(n), "drawn")
		}
	}
	for n := 1; n < 16; n++ {
		refused(t, key, begin, append(bytes.Clone(locked), d.bytes(n)...), "bytes behind")
	}
}

// Each last byte, ahead of which there are as many like it as it says, and each of those another.
func TestFillings(t *testing.T) {
	d := drawer(5)
	key, begin := d.key(), d.begin()
	for _, size := range []int{16, 32, 48} {
		for last := range 256 {
			blocks := d.bytes(size)
			n := min(last, size)
			copy(blocks[size-n:], alike(byte(last), n))
			blocks[size-1] = byte(last)
			b := lockWhole(t, key, begin, blocks)
			if fine := rightUnlock(t, key, begin, b, "a filling"); fine != (last >= 1 && last <= 16) {
				t.Fatalf("a last byte %d: %v", last, fine)
			}
		}
		for n := 2; n <= 16; n++ {
			for at := size - n; at < size-1; at++ {
				for _, x := range []byte{0, 1, byte(n - 1), byte(n + 1), byte(n + 128), 255} {
					blocks := filled(d.bytes(size - n))
					blocks[at] = x
					refused(t, key, begin, lockWhole(t, key, begin, blocks), "a filling with another byte")
				}
			}
		}
	}
}

// Blocks of one byte alone are whole texts, filled up, where the byte is 16; or they have room for others ahead.
func TestBlocksAlike(t *testing.T) {
	d := drawer(6)
	key, begin := d.key(), d.begin()
	for x := range 256 {
		for blocks := 1; blocks <= 3; blocks++ {
			b := lockWhole(t, key, begin, alike(byte(x), 16*blocks))
			got, ok := cbc.Unlock(key, begin, b)
			if fine := x >= 1 && x <= 16; ok != fine || fine && !bytes.Equal(got, alike(byte(x), 16*blocks-x)) {
				t.Fatalf("%d blocks of %d: %x, %v", blocks, x, got, ok)
			}
		}
	}
}

func TestOneByteChanged(t *testing.T) {
	d := drawer(7)
	key, begin := d.key(), d.begin()
	for _, n := range []int{0, 1, 15, 16, 17, 31, 32, 33, 40} {
		text := d.bytes(n)
		locked := cbc.Lock(key, begin, text)
		for at := range locked {
			for _, x := range []byte{1, 2, 16, 31, 128, 255} {
				b := bytes.Clone(locked)
				b[at] ^= x
				rightUnlock(t, key, begin, b, "a byte changed")
				if got, ok := cbc.Unlock(key, begin, b); ok && bytes.Equal(got, text) {
					t.Fatalf("%x and %x are both the text %x", locked, b, text)
				}
			}
		}
	}
}

// The byte ahead of the last block hides nothing: it says each byte of the filling, and of the text's end.
func TestEachValueOfTheFilling(t *testing.T) {
	d := drawer(8)
	key, begin := d.key(), d.begin()
	for n := 16; n < 32; n++ {
		text := d.bytes(n)
		locked := cbc.Lock(key, begin, text)
		for at := range 16 {
			for x := 1; x < 256; x++ {
				b := bytes.Clone(locked)
				b[at] ^= byte(x)
				rightUnlock(t, key, begin, b, "a byte of the block ahead of the last one")
			}
		}
	}
}

func TestCutAndLengthened(t *testing.T) {
	d := drawer(9)
	key, begin := d.key(), d.begin()
	for n := range 70 {
		locked := cbc.Lock(key, begin, d.bytes(n))
		for cut := range len(locked) {
			rightUnlock(t, key, begin, locked[:cut], "cut off")
			rightUnlock(t, key, begin, locked[cut:], "cut ahead")
		}
		for more := 1; more <= 33; more++ {
			rightUnlock(t, key, begin, append(bytes.Clone(locked), d.bytes(more)...), "put behind")
		}
		rightUnlock(t, key, begin, slices.Concat(locked, locked), "twice")
	}
}

// Blocks that change places are other texts, or none's.
func TestBlocksTurned(t *testing.T) {
	d := drawer(10)
	key, begin := d.key(), d.begin()
	text := d.bytes(70)
	locked := cbc.Lock(key, begin, text)
	for i := 0; i < len(locked); i += 16 {
		for j := 0; j < i; j += 16 {
			b := bytes.Clone(locked)
			copy(b[i:i+16], locked[j:])
			copy(b[j:j+16], locked[i:])
			rightUnlock(t, key, begin, b, "blocks turned")
		}
	}
}

// Blocks of the text that are alike come out unlike, as each is taken with the one ahead.
func TestBlocksOfATextAlike(t *testing.T) {
	d := drawer(11)
	seen := map[[16]byte]bool{}
	locked := cbc.Lock(d.key(), d.begin(), alike(7, 160))
	for ; len(locked) > 0; locked = locked[16:] {
		if b := [16]byte(locked); seen[b] {
			t.Fatalf("%x comes twice", b)
		} else {
			seen[b] = true
		}
	}
}

func TestAnotherKey(t *testing.T) {
	d := drawer(12)
	key, begin := d.key(), d.begin()
	for _, n := range []int{0, 15, 16, 40} {
		text := d.bytes(n)
		locked := cbc.Lock(key, begin, text)
		for at := range 256 {
			k := key
			k[at/8] ^= 1 << (at % 8)
			rightUnlock(t, k, begin, locked, "another key")
			if got, ok := cbc.Unlock(k, begin, locked); ok && bytes.Equal(got, text) {
				t.Fatalf("the key %x unlocks what %x locked", k, key)
			}
			if bytes.Equal(cbc.Lock(k, begin, text), locked) {
				t.Fatalf("the keys %x and %x lock alike", k, key)
			}
		}
	}
}

// A beginning reaches the first block alone, bit by bit.
func TestAnotherBeginning(t *testing.T) {
	d := drawer(13)
	key, begin := d.key(), d.begin()
	for _, n := range []int{0, 3, 15, 16, 17, 32, 50} {
		text := d.bytes(n)
		locked := cbc.Lock(key, begin, text)
		for at := range 128 {
			b := begin
			b[at/8] ^= 1 << (at % 8)
			rightUnlock(t, key, b, locked, "another beginning")
			if other := cbc.Lock(key, b, text); bytes.Equal(other[:16], locked[:16]) {
				t.Fatalf("the beginnings %x and %x lock alike", b, begin)
			}
			if got, ok := cbc.Unlock(key, b, locked); ok && bytes.Equal(got, text) {
				t.Fatalf("the beginning %x unlocks what %x locked", b, begin)
			}
		}
	}
}

func TestDrawnBytes(t *testing.T) {
	d := drawer(14)
	key := d.key()
	fine := 0
	for i := range 20000 {
		if rightUnlock(t, key, d.begin(), d.bytes(16*(1+i%4)), "drawn") {
			fine++
		}
	}
	if fine == 0 {
		t.Error("no drawn bytes are a text's: the test asks nothing of those")
	}
}

// P6.2

func TestSizes(t *testing.T) {
	for _, c := range []struct{ n, want int }{
		{math.MinInt, 0}, {math.MinInt + 1, 0}, {-1 << 40, 0}, {-1 << 31, 0}, {-17, 0}, {-16, 0}, {-15, 0}, {-2, 0}, {-1, 0},
		{0, 16}, {1, 16}, {2, 16}, {14, 16}, {15, 16}, {16, 32}, {17, 32}, {31, 32}, {32, 48}, {33, 48}, {255, 256}, {256, 272},
		{1024, 1040}, {1<<31 - 1, 1 << 31}, {1 << 31, 1<<31 + 16}, {1<<32 - 1, 1 << 32}, {1 << 32, 1<<32 + 16},
		{1<<40 - 17, 1<<40 - 16}, {1<<40 - 16, 1 << 40}, {1<<40 - 15, 1 << 40}, {1<<40 - 1, 1 << 40}, {1 << 40, 1<<40 + 16},
		{1<<40 + 1, 0}, {1<<40 + 15, 0}, {1<<40 + 16, 0}, {1 << 41, 0}, {1 << 62, 0}, {math.MaxInt - 16, 0}, {math.MaxInt - 1, 0}, {math.MaxInt, 0},
	} {
		if got := cbc.Size(c.n); got != c.want {
			t.Errorf("Size(%d): %d, want %d", c.n, got, c.want)
		}
	}
}

func TestSizeIsTheLeastAbove(t *testing.T) {
	for n := range 5000 {
		if got := cbc.Size(n); got%16 != 0 || got <= n || got-16 > n {
			t.Fatalf("Size(%d): %d", n, got)
		}
	}
}

func TestSizeOfWhatLockMakes(t *testing.T) {
	for _, n := range lengths() {
		if got, want := cbc.Size(n), len(cbc.Lock([32]byte{}, [16]byte{}, make([]byte, n))); got != want {
			t.Errorf("Size(%d): %d, and Lock makes %d", n, got, want)
		}
	}
}

// P6.3

func TestThereAndBack(t *testing.T) {
	d := drawer(15)
	for range 20 {
		key, begin := d.key(), d.begin()
		for _, n := range lengths()[:100] {
			text := d.bytes(n)
			locked := cbc.Lock(key, begin, text)
			got, ok := cbc.Unlock(key, begin, locked)
			if !ok || !bytes.Equal(got, text) {
				t.Fatalf("Unlock of Lock of %x: %x, %v", text, got, ok)
			}
			if again := cbc.Lock(key, begin, got); !bytes.Equal(again, locked) {
				t.Fatalf("Lock of %x: %x, and again %x", text, locked, again)
			}
		}
	}
}

func TestLastBytesAreAlike(t *testing.T) {
	d := drawer(16)
	key := d.key()
	for n := 17; n < 100; n++ {
		text := d.bytes(n)
		locked := cbc.Lock(key, d.begin(), text)
		for range 10 {
			got, ok := cbc.Unlock(key, d.begin(), locked)
			if !ok || len(got) != n || !bytes.Equal(got[16:], text[16:]) {
				t.Fatalf("another beginning: %x, %v; the text is %x", got, ok, text)
			}
		}
	}
}

// Which beginning it is can be seen in the first 16 bytes, as what is between the two.
func TestFirstBytesTellTheBeginning(t *testing.T) {
	d := drawer(17)
	key, begin := d.key(), d.begin()
	text := d.bytes(40)
	locked := cbc.Lock(key, begin, text)
	other := d.begin()
	got, ok := cbc.Unlock(key, other, locked)
	if !ok || len(got) != len(text) {
		t.Fatalf("%x, %v", got, ok)
	}
	for i := range 16 {
		if got[i]^text[i] != begin[i]^other[i] {
			t.Errorf("the byte %d is %d, want %d", i, got[i], text[i]^begin[i]^other[i])
		}
	}
}

// What is handed in, and what is handed out (rules 5 and 6)

// room is b with spare room behind it, and the whole of it.
func room(b []byte) (short, whole []byte) {
	whole = append(bytes.Clone(b), alike(99, 64)...)
	return whole[:len(b)], whole
}

func TestArgumentsStayAsTheyAre(t *testing.T) {
	d := drawer(18)
	key, begin := d.key(), d.begin()
	k, i := key, begin
	for n := range 50 {
		text, whole := room(d.bytes(n))
		was := bytes.Clone(whole)
		locked, wholeLocked := room(cbc.Lock(k, i, text))
		wasLocked := bytes.Clone(wholeLocked)
		got, ok := cbc.Unlock(k, i, locked)
		if !ok || !bytes.Equal(got, was[:n]) {
			t.Fatalf("with room behind it, %x came back as %x, %v", was[:n], got, ok)
		}
		if !bytes.Equal(whole, was) || !bytes.Equal(wholeLocked, wasLocked) || k != key || i != begin {
			t.Fatalf("an argument of %d bytes, or its spare room, is changed", n)
		}
	}
}

func TestRefusalsLeaveArguments(t *testing.T) {
	d := drawer(19)
	for n := range 50 {
		b, whole := room(d.bytes(n))
		was := bytes.Clone(whole)
		cbc.Unlock(d.key(), d.begin(), b)
		if !bytes.Equal(whole, was) {
			t.Fatalf("%d bytes, or their spare room, are changed", n)
		}
	}
}

func TestAnswersAreNewMemory(t *testing.T) {
	d := drawer(20)
	key, begin := d.key(), d.begin()
	for n := range 50 {
		text := d.bytes(n)
		was := bytes.Clone(text)
		one, two := cbc.Lock(key, begin, text), cbc.Lock(key, begin, text)
		want := bytes.Clone(one)
		open, _ := cbc.Unlock(key, begin, one)
		again, _ := cbc.Unlock(key, begin, one)
		clear(text)
		clear(one[:cap(one)])
		clear(open[:cap(open)])
		if !bytes.Equal(two, want) || !bytes.Equal(again, was) {
			t.Fatalf("two answers, or an answer and an argument, of %d bytes share memory", n)
		}
	}
}

// What is put behind an answer twice doesn't meet itself, and tells nothing of what filled the text up.
func TestWhatIsPutBehindAnswers(t *testing.T) {
	d := drawer(21)
	key, begin := d.key(), d.begin()
	for n := range 50 {
		text := d.bytes(n)
		locked := cbc.Lock(key, begin, text)
		open, _ := cbc.Unlock(key, begin, locked)
		if cap(locked) != len(locked) || cap(open) != len(open) {
			t.Fatalf("answers of %d and %d bytes have room for %d and %d", len(locked), len(open), cap(locked), cap(open))
		}
		for _, b := range [][]byte{locked, open} {
			was := bytes.Clone(b)
			one, two := append(b, 1), append(b, 2)
			if !bytes.Equal(b, was) || one[len(b)] != 1 || two[len(b)] != 2 {
				t.Fatalf("put behind %x: %x, %x", b, one, two)
			}
		}
	}
}

func TestAgainAndSideBySide(t *testing.T) {
	d := drawer(22)
	key, begin, text := d.key(), d.begin(), d.bytes(30)
	want := cbc.Lock(key, begin, text)
	for range 20 {
		other := cbc.Lock(d.key(), d.begin(), d.bytes(30))
		cbc.Unlock(d.key(), d.begin(), other)
		if got := cbc.Lock(key, begin, text); !bytes.Equal(got, want) {
			t.Fatalf("Lock again: %x, it was %x", got, want)
		}
		if got, ok := cbc.Unlock(key, begin, want); !ok || !bytes.Equal(got, text) {
			t.Fatalf("Unlock again: %x, %v", got, ok)
		}
	}
}
