package sha_test

import (
	"bytes"
	"crypto/sha256"
	"crypto/sha512"
	"encoding/hex"
	"strings"
	"testing"

	"missive/sha"
)

// row is n bytes, no two neighbours alike, so that one that is moved or left out shows.
func row(n, from int) []byte {
	b := make([]byte, n)
	for i := range b {
		b[i] = byte(from + 7*i)
	}
	return b
}

// tiny makes numbers that look like thrown ones, the same each time.
type tiny uint32

func (t *tiny) below(n int) int {
	*t = *t*1664525 + 1013904223
	return int(*t>>8) % n
}

// of is the hash under way to which the pieces were put.
func of(pieces ...[]byte) *sha.Hash {
	h := sha.New256()
	for _, p := range pieces {
		h.Put(p)
	}
	return h
}

// holds asks a hash under way whether it is that of b.
func holds(t *testing.T, h *sha.Hash, b []byte, when string) {
	t.Helper()
	if got, want := h.Sum(), sha256.Sum256(b); got != want {
		t.Fatalf("%s: the hash of %d bytes: %x, want %x", when, len(b), got, want)
	}
}

// right asks both hashes of b.
func right(t *testing.T, b []byte, what string) {
	t.Helper()
	if got, want := sha.Sum256(b), sha256.Sum256(b); got != want {
		t.Fatalf("Sum256 of %d bytes (%s): %x, want %x", len(b), what, got, want)
	}
	if got, want := sha.Sum512(b), sha512.Sum512(b); got != want {
		t.Fatalf("Sum512 of %d bytes (%s): %x, want %x", len(b), what, got, want)
	}
}

// P3.1

func TestKnownHashes(t *testing.T) {
	for _, c := range []struct{ text, short, long string }{
		{
			"",
			"e3b0c44298fc1c149afbf4c8996fb92427ae41e4649b934ca495991b7852b855",
			"cf83e1357eefb8bdf1542850d66d8007d620e4050b5715dc83f4a921d36ce9ce47d0d13c5d85f2b0ff8318d2877eec2f63b931bd47417a81a538327af927da3e",
		},
		{
			"abc",
			"ba7816bf8f01cfea414140de5dae2223b00361a396177a9cb410ff61f20015ad",
			"ddaf35a193617abacc417349ae20413112e6fa4e89a97ea20a9eeee64b55d39a2192992a274fc1a836ba3c23a3feebbd454d4423643ce80e2a9ac94fa54ca49f",
		},
		{
			"abcdbcdecdefdefgefghfghighijhijkijkljklmklmnlmnomnopnopq",
			"248d6a61d20638b8e5c026930c3e6039a33ce45964ff2167f6ecedd419db06c1",
			"204a8fc6dda82f0a0ced7beb8e08a41657c16ef468b228a8279be331a703c33596fd15c13b1b07f9aa1d3bea57789ca031ad85c7a71dd70354ec631238ca3445",
		},
		{
			"abcdefghbcdefghicdefghijdefghijkefghijklfghijklmghijklmnhijklmnoijklmnopjklmnopqklmnopqrlmnopqrsmnopqrstnopqrstu",
			"cf5b16a778af8380036ce59e7b0492370b249b11e8f07a51afac45037afee9d1",
			"8e959b75dae313da8cf4f72814fc143f8f7779c6eb9f7fa17299aeadb6889018501d289e4900f7e4331b99dec4b5433ac7d329eeb6dd26545e96e55b874be909",
		},
		{
			strings.Repeat("a", 1000000),
			"cdc76e5c9914fb9281a1c7e284d73e67f1809a48a497200e046d39ccc7112cd0",
			"e718483d0ce769644e2e42c7bc15b4638e1f98b13b2044285632a803afa973ebde0ff244877ea60a4cb0432ce577c31beb009c5c2c49aa2e4eadb217ad8cc09b",
		},
	} {
		b := []byte(c.text)
		if s := sha.Sum256(b); hex.EncodeToString(s[:]) != c.short {
			t.Errorf("Sum256(%.20q): %x, want %s", c.text, s, c.short)
		}
		if s := of(b).Sum(); hex.EncodeToString(s[:]) != c.short {
			t.Errorf("Sum behind Put(%.20q): %x, want %s", c.text, s, c.short)
		}
		if s := sha.Sum512(b); hex.EncodeToString(s[:]) != c.long {
			t.Errorf("Sum512(%.20q): %x, want %s", c.text, s, c.long)
		}
	}
}

func TestSum256WhereABlockIsJustFilled(t *testing.T) {
	for n, want := range map[int]string{
		1:   "ca978112ca1bbdcafac231b39a23dc4da786eff8147c4e72b9807785afee48bb",
		55:  "9f4390f8d30c2dd92ec9f095b65e2b9ae9b0a925a5258e241c9f1e910f734318",
		56:  "b35439a4ac6f0948b6d6f9e3c6af0f5f590ce20f1bde7090ef7970686ec6738a",
		57:  "f13b2d724659eb3bf47f2dd6af1accc87b81f09f59f2b75e5c0bed6589dfe8c6",
		63:  "7d3e74a05d7db15bce4ad9ec0658ea98e3f06eeecf16b4c6fff2da457ddc2f34",
		64:  "ffe054fe7ae0cb6dc65c3af9b61d5209f439851db43d0ba5997337df154668eb",
		65:  "635361c48bb9eab14198e76ea8ab7f1a41685d6ad62aa9146d301d4f17eb0ae0",
		119: "31eba51c313a5c08226adf18d4a359cfdfd8d2e816b13f4af952f7ea6584dcfb",
		120: "2f3d335432c70b580af0e8e1b3674a7c020d683aa5f73aaaedfdc55af904c21c",
		128: "6836cf13bac400e9105071cd6af47084dfacad4e5e302c94bfed24e013afb73e",
	} {
		if s := sha.Sum256(bytes.Repeat([]byte("a"), n)); hex.EncodeToString(s[:]) != want {
			t.Errorf("Sum256 of %d letters: %x, want %s", n, s, want)
		}
	}
}

func TestSum512WhereABlockIsJustFilled(t *testing.T) {
	for n, want := range map[int]string{
		1:   "1f40fc92da241694750979ee6cf582f2d5d7d28e18335de05abc54d0560e0f5302860c652bf08d560252aa5e74210546f369fbbbce8c12cfc7957b2652fe9a75",
		111: "fa9121c7b32b9e01733d034cfc78cbf67f926c7ed83e82200ef86818196921760b4beff48404df811b953828274461673c68d04e297b0eb7b2b4d60fc6b566a2",
		112: "c01d080efd492776a1c43bd23dd99d0a2e626d481e16782e75d54c2503b5dc32bd05f0f1ba33e568b88fd2d970929b719ecbb152f58f130a407c8830604b70ca",
		113: "55ddd8ac210a6e18ba1ee055af84c966e0dbff091c43580ae1be703bdb85da31acf6948cf5bd90c55a20e5450f22fb89bd8d0085e39f85a86cc46abbca75e24d",
		127: "828613968b501dc00a97e08c73b118aa8876c26b8aac93df128502ab360f91bab50a51e088769a5c1eff4782ace147dce3642554199876374291f5d921629502",
		128: "b73d1929aa615934e61a871596b3f3b33359f42b8175602e89f7e06e5f658a243667807ed300314b95cacdd579f3e33abdfbe351909519a846d465c59582f321",
		129: "4f681e0bd53cda4b5a2041cc8a06f2eabde44fb16c951fbd5b87702f07aeab611565b19c47fde30587177ebb852e3971bbd8d3fd30da18d71037dfbd98420429",
		239: "52c853cb8d907f3d4d6b889beb027985d7c273486d75f8baf26f80d24e90c74c6c3de3e22131582380a7d14d43f2941a31385439cd6ddc469f628015e50bf286",
		240: "4c296d90c61052a62ffb1dd196f1b7b09373b1f93e71836baebf89690546b7595684dbe9467a8e484fa0d1094272b4344a7c24f5fee8daedeb0bf549c985ab5f",
		256: "6a9169eb662f136d87374070e8828b3e615a7eca32a89446e9225b02832709be095e635c824a2bb70213ba2ea0ababac0809827843992c851903b7ac0c136699",
	} {
		if s := sha.Sum512(bytes.Repeat([]byte("a"), n)); hex.EncodeToString(s[:]) != want {
			t.Errorf("Sum512 of %d letters: %x, want %s", n, s, want)
		}
	}
}

func TestSumsOfEachLength(t *testing.T) {
	for n := range 1100 {
		right(t, row(n, n), "a row")
		right(t, make([]byte, n), "bytes 0")
		right(t, bytes.Repeat([]byte{255}, n), "bytes 255")
		// A text that ends as if it were filled up already isn't the one without that end.
		right(t, append(row(n, 1), 128), "a byte 128 at its end")
	}
}

func TestSumsOfEachBit(t *testing.T) {
	for _, n := range []int{1, 55, 56, 64, 65, 111, 112, 128, 129} {
		b := make([]byte, n)
		for i := range 8 * n {
			b[i/8] = 1 << (i % 8)
			right(t, b, "one bit")
			b[i/8] = 0
		}
	}
}

func TestSumsOfThrownBytes(t *testing.T) {
	r := tiny(1)
	for range 3000 {
		b := make([]byte, r.below(700))
		for i := range b {
			b[i] = byte(r.below(256))
		}
		right(t, b, "thrown bytes")
	}
}

func TestSumsOfLongTexts(t *testing.T) {
	// From 8192 bytes on the number of bits needs a third byte, from 2097152 on a fourth one.
	for _, n := range []int{4095, 4096, 4097, 8191, 8192, 8193, 65535, 65536, 65537, 2097151, 2097152, 2097153} {
		right(t, row(n, 3), "a long row")
	}
}

func TestSumsOfSoManyBitsThatTheyNeedAFifthByte(t *testing.T) {
	if testing.Short() {
		t.Skip("it takes seconds")
	}
	b := make([]byte, 1<<29+1)
	t.Run("512", func(t *testing.T) {
		t.Parallel()
		if got, want := sha.Sum512(b), sha512.Sum512(b); got != want {
			t.Errorf("Sum512: %x, want %x", got, want)
		}
	})
	t.Run("256", func(t *testing.T) {
		t.Parallel()
		if got, want := of(b[:100], b[100:]).Sum(), sha256.Sum256(b); got != want {
			t.Errorf("Sum: %x, want %x", got, want)
		}
	})
}

func TestSumsOfNilAndEmptyAreThoseOfNoByte(t *testing.T) {
	for _, b := range [][]byte{nil, {}, make([]byte, 0, 200), row(9, 1)[:0]} {
		if sha.Sum256(b) != sha256.Sum256(nil) || sha.Sum512(b) != sha512.Sum512(nil) {
			t.Errorf("%#v: %x, %x", b, sha.Sum256(b), sha.Sum512(b))
		}
	}
}

func TestSumsAgain(t *testing.T) {
	for _, n := range []int{0, 3, 55, 56, 64, 111, 112, 128, 300} {
		b := row(n, 2)
		s, l := sha.Sum256(b), sha.Sum512(b)
		sha.Sum256(row(77, 5))
		sha.Sum512(row(277, 5))
		if sha.Sum256(b) != s || sha.Sum512(b) != l {
			t.Errorf("%d bytes: the second time another hash", n)
		}
	}
}

func TestSumsLeaveTheBytesAndTheRoomBehindThem(t *testing.T) {
	for n := range 300 {
		whole := row(n+200, 1)
		b := whole[:n]
		sha.Sum256(b)
		sha.Sum512(b)
		h := of(b)
		h.Sum()
		h.Put(b)
		if !bytes.Equal(whole, row(n+200, 1)) {
			t.Fatalf("%d bytes: written over", n)
		}
		right(t, b, "with room behind")
	}
}

// P3.2

func TestSumOfAHashToWhichNothingWasPut(t *testing.T) {
	h := sha.New256()
	holds(t, h, nil, "new")
	holds(t, h, nil, "asked again")
	h.Put(nil)
	h.Put([]byte{})
	h.Put(make([]byte, 0, 64))
	holds(t, h, nil, "no bytes put")
	h.Put([]byte("abc"))
	holds(t, h, []byte("abc"), "and then some")
	holds(t, sha.New256(), nil, "another new one")
}

func TestPutInTwoPieces(t *testing.T) {
	for n := range 260 {
		b := row(n, n)
		for cut := range n + 1 {
			holds(t, of(b[:cut], b[cut:]), b, "in two pieces")
			if cut%16 == 0 || cut%64 == 63 || cut%64 == 1 {
				holds(t, of(nil, b[:cut], nil, []byte{}, b[cut:], nil), b, "in two pieces, and empty ones")
			}
		}
	}
}

func TestPutInThreePieces(t *testing.T) {
	b := row(330, 5)
	for first := range 130 {
		for second := range 130 {
			holds(t, of(b[:first], b[first:first+second], b[first+second:]), b, "in three pieces")
		}
	}
}

func TestPutInPiecesOfEachSize(t *testing.T) {
	b := row(1000, 9)
	for size := 1; size <= 300; size++ {
		silent, asked := sha.New256(), sha.New256()
		for at := 0; at < len(b); at += size {
			p := b[at:min(at+size, len(b))]
			silent.Put(p)
			asked.Put(p)
			holds(t, asked, b[:at+len(p)], "on the way")
		}
		holds(t, silent, b, "asked at the end alone")
	}
}

func TestPutInThrownSizes(t *testing.T) {
	r := tiny(2)
	for range 300 {
		h := sha.New256()
		var all []byte
		for range r.below(40) {
			p := row([]int{0, 1, 8, 63, 64, 65, 127, 128, 129, 500, r.below(200)}[r.below(11)], r.below(256))
			h.Put(p)
			all = append(all, p...)
			if r.below(3) == 0 {
				holds(t, h, all, "on the way")
			}
		}
		holds(t, h, all, "in thrown sizes")
	}
}

func TestSumAgainAndMoreBehindIt(t *testing.T) {
	for n := range 200 {
		first := row(n, 4)
		for _, m := range []int{0, 1, 7, 8, 9, 55, 56, 63, 64, 65, 128, 200} {
			second := row(m, 100)
			both := append(bytes.Clone(first), second...)
			h := of(first)
			for range 3 {
				holds(t, h, first, "asked again")
			}
			h.Put(second)
			for range 3 {
				holds(t, h, both, "more put, asked again")
			}
		}
	}
}

func TestSumIsNotKept(t *testing.T) {
	h := of(row(70, 1))
	s := h.Sum()
	clear(s[:])
	holds(t, h, row(70, 1), "the answer written over")
	s = h.Sum()
	h.Put(row(70, 2))
	h.Sum()
	if s != sha256.Sum256(row(70, 1)) {
		t.Error("an answer has changed")
	}
}

func TestPutWhatSumAnswers(t *testing.T) {
	h := sha.New256()
	var all []byte
	for range 100 {
		s := h.Sum()
		h.Put(s[:])
		all = append(all, s[:]...)
		holds(t, h, all, "its own hash put")
	}
}

func TestHashesUnderWayDoNotTouchEachOther(t *testing.T) {
	r := tiny(3)
	const count = 5
	var hashes [count]*sha.Hash
	var texts [count][]byte
	for i := range hashes {
		hashes[i] = sha.New256()
	}
	for range 2000 {
		i := r.below(count)
		p := row(r.below(90), r.below(256))
		hashes[i].Put(p)
		texts[i] = append(texts[i], p...)
		// Hashes that are asked at once stand between the puts of the others.
		sha.Sum256(p)
		sha.Sum512(p)
		if k := r.below(count); len(texts[k]) < 3000 {
			holds(t, hashes[k], texts[k], "among others")
		}
	}
	for i, h := range hashes {
		holds(t, h, texts[i], "among others, at the end")
	}
	holds(t, sha.New256(), nil, "a new one behind them")
}

func TestBytesWrittenOverBehindPut(t *testing.T) {
	for size := 1; size <= 200; size++ {
		h := sha.New256()
		room := make([]byte, size)
		var all []byte
		for k := range 5 {
			copy(room, row(size, 31*k))
			all = append(all, room...)
			h.Put(room)
			for i := range room {
				room[i] ^= 255
			}
			holds(t, h, all, "written over")
		}
	}
}

func TestTheSameDoneTwiceAnswersTheSame(t *testing.T) {
	run := func() (sums [][32]byte) {
		r, h := tiny(4), sha.New256()
		for range 200 {
			h.Put(row(r.below(150), r.below(256)))
			sums = append(sums, h.Sum())
		}
		return sums
	}
	one, two := run(), run()
	for i := range one {
		if one[i] != two[i] {
			t.Fatalf("the answer %d: %x, and then %x", i, one[i], two[i])
		}
	}
}
