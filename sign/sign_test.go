package sign_test

import (
	"bytes"
	"crypto/ed25519"
	"crypto/sha512"
	"encoding/hex"
	"math/big"
	"slices"
	"strings"
	"testing"

	"missive/curve"
	"missive/sign"
)

// drawer makes bytes that look like thrown ones, the same each time.
type drawer uint64

func (d *drawer) text(n int) []byte {
	b := make([]byte, n)
	for i := range b {
		*d = *d*6364136223846793005 + 1442695040888963407
		b[i] = byte(*d >> 56)
	}
	return b
}

func (d *drawer) bytes() [32]byte { return [32]byte(d.text(32)) }

// number is one below L.
func (d *drawer) number() *big.Int {
	n := whole(d.text(40))
	return n.Mod(n, order(1, 0))
}

// unhex are the bytes that a text of base sixteen says, which may stand in several lines.
func unhex(t *testing.T, s string) []byte {
	t.Helper()
	b, err := hex.DecodeString(strings.Join(strings.Fields(s), ""))
	if err != nil {
		t.Fatal(err)
	}
	return b
}

// shift is 2^n and more.
func shift(n uint, more int64) *big.Int {
	x := new(big.Int).Lsh(big.NewInt(1), n)
	return x.Add(x, big.NewInt(more))
}

// prime is p and more.
func prime(more int64) *big.Int { return shift(255, more-19) }

// order is k times L, and more.
func order(k, more int64) *big.Int {
	x, _ := new(big.Int).SetString("27742317777372353535851937790883648493", 10)
	x.Add(x, shift(252, 0))
	x.Mul(x, big.NewInt(k))
	return x.Add(x, big.NewInt(more))
}

// whole is the number of the bytes, the least first.
func whole(b []byte) *big.Int {
	b = slices.Clone(b)
	slices.Reverse(b)
	return new(big.Int).SetBytes(b)
}

// bytesOf are the 32 bytes of a number that has no more, the least first.
func bytesOf(n *big.Int) (b [32]byte) {
	n.FillBytes(b[:])
	slices.Reverse(b[:])
	return b
}

// topped are the bytes with the topmost bit set.
func topped(b [32]byte) [32]byte {
	b[31] |= 128
	return b
}

// joined is a signature of these halves.
func joined(first, second [32]byte) [64]byte {
	return [64]byte(slices.Concat(first[:], second[:]))
}

// half is that one of the signature: 0 or 1.
func half(sig [64]byte, i int) [32]byte { return [32]byte(sig[32*i:]) }

// hashed is the hash of the pieces as a number modulo L.
func hashed(pieces ...[]byte) *big.Int {
	h := sha512.Sum512(slices.Concat(pieces...))
	n := whole(h[:])
	return n.Mod(n, order(1, 0))
}

// based is the number times the base.
func based(n *big.Int) curve.Point { return curve.Mul(bytesOf(n), curve.Base()) }

// lows are the eight points of which eight make the zero point, each once more than the one ahead of it.
func lows(t *testing.T) (l [8]curve.Point) {
	t.Helper()
	one, ok := curve.Decode([32]byte(unhex(t, "26e8958fc2b227b045c3f489f2ef98f0d5dfac05d3c63339b13802886d53fc05")))
	if !ok {
		t.Fatal("there is no point of order 8")
	}
	for i := range l[1:] {
		l[i+1] = curve.Add(l[i], one)
	}
	if l[4] == (curve.Point{}) || curve.Add(l[7], one) != (curve.Point{}) {
		t.Fatal("the points aren't those of low order")
	}
	return l
}

// wanted are the public key and the signature that another program makes.
func wanted(seed [32]byte, text []byte) ([32]byte, [64]byte) {
	k := ed25519.NewKeyFromSeed(seed[:])
	return [32]byte(k.Public().(ed25519.PublicKey)), [64]byte(ed25519.Sign(k, text))
}

// made asks for the seed's public key and its signature, which must be the wanted ones.
func made(t *testing.T, seed [32]byte, text []byte) ([32]byte, [64]byte) {
	t.Helper()
	public, sig := wanted(seed, text)
	if got := sign.Public(seed); got != public {
		t.Fatalf("Public(%x): %x, want %x", seed, got, public)
	}
	if got := sign.Sign(seed, text); got != sig {
		t.Fatalf("Sign(%x, %d bytes): %x, want %x", seed, len(text), got, sig)
	}
	return public, sig
}

// seeds are those at the edges, and drawn ones.
func seeds() (l [][32]byte) {
	for _, n := range []*big.Int{
		big.NewInt(0), big.NewInt(1), order(1, -1), order(1, 0), prime(0), shift(255, -1), shift(255, 0), shift(256, -1),
	} {
		l = append(l, bytesOf(n))
	}
	d := drawer(1)
	for range 40 {
		l = append(l, d.bytes())
	}
	return l
}

// P11.1

func TestChapterExamples(t *testing.T) {
	seed := [32]byte(unhex(t, "9d61b19deffd5a60ba844af492ec2cc44449c5697b326919703bac031cae7f60"))
	public, sig := sign.Public(seed), sign.Sign(seed, nil)
	if !bytes.HasPrefix(public[:], unhex(t, "d75a9801")) || !bytes.HasPrefix(sig[:], unhex(t, "e5564300")) {
		t.Errorf("Public: %x, Sign of nothing: %x", public, sig)
	}
}

// long is the text of RFC 8032 that has 1023 bytes.
const long = `
08b8b2b733424243760fe426a4b54908632110a66c2f6591eabd3345e3e4eb98
fa6e264bf09efe12ee50f8f54e9f77b1e355f6c50544e23fb1433ddf73be84d8
79de7c0046dc4996d9e773f4bc9efe5738829adb26c81b37c93a1b270b20329d
658675fc6ea534e0810a4432826bf58c941efb65d57a338bbd2e26640f89ffbc
1a858efcb8550ee3a5e1998bd177e93a7363c344fe6b199ee5d02e82d522c4fe
ba15452f80288a821a579116ec6dad2b3b310da903401aa62100ab5d1a36553e
06203b33890cc9b832f79ef80560ccb9a39ce767967ed628c6ad573cb116dbef
efd75499da96bd68a8a97b928a8bbc103b6621fcde2beca1231d206be6cd9ec7
aff6f6c94fcd7204ed3455c68c83f4a41da4af2b74ef5c53f1d8ac70bdcb7ed1
85ce81bd84359d44254d95629e9855a94a7c1958d1f8ada5d0532ed8a5aa3fb2
d17ba70eb6248e594e1a2297acbbb39d502f1a8c6eb6f1ce22b3de1a1f40cc24
554119a831a9aad6079cad88425de6bde1a9187ebb6092cf67bf2b13fd65f270
88d78b7e883c8759d2c4f5c65adb7553878ad575f9fad878e80a0c9ba63bcbcc
2732e69485bbc9c90bfbd62481d9089beccf80cfe2df16a2cf65bd92dd597b07
07e0917af48bbb75fed413d238f5555a7a569d80c3414a8d0859dc65a46128ba
b27af87a71314f318c782b23ebfe808b82b0ce26401d2e22f04d83d1255dc51a
ddd3b75a2b1ae0784504df543af8969be3ea7082ff7fc9888c144da2af58429e
c96031dbcad3dad9af0dcbaaaf268cb8fcffead94f3c7ca495e056a9b47acdb7
51fb73e666c6c655ade8297297d07ad1ba5e43f1bca32301651339e22904cc8c
42f58c30c04aafdb038dda0847dd988dcda6f3bfd15c4b4c4525004aa06eeff8
ca61783aacec57fb3d1f92b0fe2fd1a85f6724517b65e614ad6808d6f6ee34df
f7310fdc82aebfd904b01e1dc54b2927094b2db68d6f903b68401adebf5a7e08
d78ff4ef5d63653a65040cf9bfd4aca7984a74d37145986780fc0b16ac451649
de6188a7dbdf191f64b5fc5e2ab47b57f7f7276cd419c17a3ca8e1b939ae49e4
88acba6b965610b5480109c8b17b80e1b7b750dfc7598d5d5011fd2dcc5600a3
2ef5b52a1ecc820e308aa342721aac0943bf6686b64b2579376504ccc493d97e
6aed3fb0f9cd71a43dd497f01f17c0e2cb3797aa2a2f256656168e6c496afc5f
b93246f6b1116398a346f1a641f3b041e989f7914f90cc2c7fff357876e506b5
0d334ba77c225bc307ba537152f3f1610e4eafe595f6d9d90d11faa933a15ef1
369546868a7f3a45a96768d40fd9d03412c091c6315cf4fde7cb68606937380d
b2eaaa707b4c4185c32eddcdd306705e4dc1ffc872eeee475a64dfac86aba41c
0618983f8741c5ef68d3a101e8a3b8cac60c905c15fc910840b94c00a0b9d0
`

func TestPublishedSignatures(t *testing.T) {
	for _, c := range []struct{ seed, public, text, sig string }{
		{
			"9d61b19deffd5a60ba844af492ec2cc44449c5697b326919703bac031cae7f60",
			"d75a980182b10ab7d54bfed3c964073a0ee172f3daa62325af021a68f707511a",
			"",
			"e5564300c360ac729086e2cc806e828a84877f1eb8e5d974d873e065224901555fb8821590a33bacc61e39701cf9b46bd25bf5f0595bbe24655141438e7a100b",
		},
		{
			"4ccd089b28ff96da9db6c346ec114e0f5b8a319f35aba624da8cf6ed4fb8a6fb",
			"3d4017c3e843895a92b70aa74d1b7ebc9c982ccf2ec4968cc0cd55f12af4660c",
			"72",
			"92a009a9f0d4cab8720e820b5f642540a2b27b5416503f8fb3762223ebdb69da085ac1e43e15996e458f3613d0f11d8c387b2eaeb4302aeeb00d291612bb0c00",
		},
		{
			"c5aa8df43f9f837bedb7442f31dcb7b166d38535076f094b85ce3a2e0b4458f7",
			"fc51cd8e6218a1a38da47ed00230f0580816ed13ba3303ac5deb911548908025",
			"af82",
			"6291d657deec24024827e69c3abe01a30ce548a284743a445e3680d7db5ac3ac18ff9b538d16f290ae67f760984dc6594a7c15e9716ed28dc027beceea1ec40a",
		},
		{
			"f5e5767cf153319517630f226876b86c8160cc583bc013744c6bf255f5cc0ee5",
			"278117fc144c72340f67d0f2316e8386ceffbf2b2428c9c51fef7c597f1d426e",
			long,
			"0aab4c900501b3e24d7cdf4663326a3a87df5e4843b2cbdb67cbf6e460fec350aa5371b1508f9f4528ecea23c436d94b5e8fcd4f681e30a6ac00a9704a188a03",
		},
		{
			"833fe62409237b9d62ec77587520911e9a759cec1d19755b7da901b96dca3d42",
			"ec172b93ad5e563bf4932c70e1245034c35467ef2efd4d64ebf819683467e2bf",
			"ddaf35a193617abacc417349ae20413112e6fa4e89a97ea20a9eeee64b55d39a2192992a274fc1a836ba3c23a3feebbd454d4423643ce80e2a9ac94fa54ca49f",
			"dc2a4459e7369633a52b1bf277839a00201009a3efbf3ecb69bea2186c26b58909351fc9ac90b3ecfdfbc7c66431e0303dca179c138ac17ad9bef1177331a704",
		},
	} {
		seed, text := [32]byte(unhex(t, c.seed)), unhex(t, c.text)
		public, sig := sign.Public(seed), sign.Sign(seed, text)
		if hex.EncodeToString(public[:]) != c.public || hex.EncodeToString(sig[:]) != c.sig {
			t.Errorf("of the seed %s: Public %x, Sign of %d bytes %x", c.seed, public, len(text), sig)
		}
		if !sign.Verify(public, text, sig) {
			t.Errorf("of the seed %s: Verify of %d bytes: false", c.seed, len(text))
		}
	}
}

func TestEachSeed(t *testing.T) {
	d := drawer(2)
	for i, seed := range seeds() {
		made(t, seed, d.text(i))
	}
	// Each bit of a seed alone.
	for bit := range uint(256) {
		made(t, bytesOf(shift(bit, 0)), nil)
	}
}

// The prefix stands ahead of the text in one hash, two halves in the other one: so each length about a block's is at an edge of one of them.
func TestEachLength(t *testing.T) {
	d := drawer(3)
	sizes := []int{511, 512, 513, 1000, 1023, 1024, 4096, 5000, 8191, 70000}
	for n := range 260 {
		sizes = append(sizes, n)
	}
	for _, n := range sizes {
		made(t, d.bytes(), d.text(n))
	}
}

func TestSignBySeedAndText(t *testing.T) {
	// The words of the chapter, of one seed: no other point, no other number.
	d := drawer(4)
	for n := range 20 {
		seed, text := d.bytes(), d.text(7*n)
		h := sha512.Sum512(seed[:])
		h[0] &^= 7
		h[31] = h[31]&127 | 64
		s, r := whole(h[:32]), hashed(h[32:], text)
		public, first := curve.Encode(based(s)), curve.Encode(based(r))
		k := hashed(first[:], public[:], text)
		sum := new(big.Int).Mul(k, s)
		want := joined(first, bytesOf(sum.Mod(sum.Add(sum, r), order(1, 0))))
		if got := sign.Sign(seed, text); got != want || sign.Public(seed) != public {
			t.Fatalf("Sign(%x, %x): %x, want %x", seed, text, got, want)
		}
	}
}

// P11.2

// refused asks that nothing is verified that isn't the wanted thing.
func refused(t *testing.T, public [32]byte, text []byte, sig [64]byte, what string, args ...any) {
	t.Helper()
	if sign.Verify(public, text, sig) {
		t.Fatalf("Verify(%x, %x, %x): true, of %s %v", public, text, sig, what, args)
	}
}

func TestOneBitAnother(t *testing.T) {
	d := drawer(5)
	for _, n := range []int{0, 1, 40} {
		seed, text := d.bytes(), d.text(n)
		public, sig := made(t, seed, text)
		if !sign.Verify(public, text, sig) {
			t.Fatalf("Verify(%x, %x, %x): false", public, text, sig)
		}
		for bit := range 256 {
			other := public
			other[bit/8] ^= 1 << (bit % 8)
			refused(t, other, text, sig, "another bit of the public key", bit)
		}
		for bit := range 512 {
			other := sig
			other[bit/8] ^= 1 << (bit % 8)
			refused(t, public, text, other, "another bit of the signature", bit)
		}
		for bit := range 8 * n {
			other := slices.Clone(text)
			other[bit/8] ^= 1 << (bit % 8)
			refused(t, public, other, sig, "another bit of the text", bit)
		}
	}
}

func TestAnotherTextKeyOrSignature(t *testing.T) {
	d := drawer(6)
	a, b := d.bytes(), d.bytes()
	text, other := d.text(50), d.text(50)
	publicA, sigA := made(t, a, text)
	publicB, sigB := made(t, b, text)
	_, sigOther := made(t, a, other)
	refused(t, publicB, text, sigA, "another key")
	refused(t, publicA, text, sigB, "another key's signature")
	refused(t, publicA, other, sigA, "another text")
	refused(t, publicA, text, sigOther, "another text's signature")
	refused(t, publicA, append(slices.Clone(text), 0), sigA, "a text with a byte 0 more")
	refused(t, publicA, text[:49], sigA, "a text with a byte less")
	refused(t, publicA, text[1:], sigA, "a text without its first byte")
	refused(t, publicA, append([]byte{0}, text...), sigA, "a text behind a byte 0")
	refused(t, publicA, nil, sigA, "no text")
	refused(t, publicA, text, joined(half(sigA, 1), half(sigA, 0)), "halves that are changed about")
	refused(t, publicA, text, joined(half(sigA, 0), half(sigOther, 1)), "halves of two")
	refused(t, publicA, text, joined(half(sigOther, 0), half(sigA, 1)), "halves of two")
	refused(t, curve.Encode(curve.Neg(point(t, publicA))), text, sigA, "the contrary key")
	first := curve.Encode(curve.Neg(point(t, half(sigA, 0))))
	refused(t, publicA, text, joined(first, half(sigA, 1)), "the contrary first half")
	second := new(big.Int).Sub(order(1, 0), whole(sigA[32:]))
	refused(t, publicA, text, joined(half(sigA, 0), bytesOf(second)), "the contrary second half")
}

// point is the point of these bytes.
func point(t *testing.T, b [32]byte) curve.Point {
	t.Helper()
	p, ok := curve.Decode(b)
	if !ok {
		t.Fatalf("%x are no point's bytes", b)
	}
	return p
}

// Bytes of all kinds beside the library, which tells the same of all public keys that are a point's bytes.
func TestBytesOfAnyKind(t *testing.T) {
	d := drawer(7)
	publics := [][32]byte{{}, {1}, {2}, {3}, {4}, {31: 128}, {1, 31: 128}, bytesOf(prime(-1)), bytesOf(prime(0)), bytesOf(prime(1)), bytesOf(shift(256, -1)), curve.Encode(curve.Base())}
	for range 30 {
		publics = append(publics, d.bytes())
	}
	sigs := [][64]byte{{}, {1}, {32: 1}, {1, 32: 1}, {31: 128}, {63: 128}, {63: 16}}
	for range 5 {
		sigs = append(sigs, [64]byte(d.text(64)), joined(d.bytes(), bytesOf(d.number())))
	}
	for _, public := range publics {
		_, ok := curve.Decode(public)
		for i, sig := range sigs {
			text := d.text(i)
			want := ok && ed25519.Verify(public[:], text, sig[:])
			if got := sign.Verify(public, text, sig); got != want {
				t.Fatalf("Verify(%x, %x, %x): %v, want %v", public, text, sig, got, want)
			}
		}
	}
}

func TestPublicKeyThatIsNoPoint(t *testing.T) {
	d := drawer(8)
	no := [][32]byte{{2}, topped([32]byte{2}), {7}, {1, 31: 128}, topped(bytesOf(prime(-1))), bytesOf(prime(-2))}
	for more := range int64(19) {
		no = append(no, bytesOf(prime(more)), topped(bytesOf(prime(more))))
	}
	for range 100 {
		if b := d.bytes(); !decoded(b) {
			no = append(no, b)
		}
	}
	for _, public := range no {
		if decoded(public) {
			t.Fatalf("%x are a point's bytes", public)
		}
		// A key that is read as a point of low order, whose multiples change nothing: then the first half is right.
		for n := range 8 {
			s, text := d.number(), d.text(n)
			sig := joined(curve.Encode(based(s)), bytesOf(s))
			refused(t, public, text, sig, "a key that is no point")
			if !sign.Verify([32]byte{1}, text, sig) {
				t.Fatalf("Verify(01 00 .., %x, %x): false", text, sig)
			}
		}
	}
}

// decoded tells whether the bytes are a point's.
func decoded(b [32]byte) bool {
	_, ok := curve.Decode(b)
	return ok
}

// A key is a number times the base and a point of low order (that one alone of the number 0), a first half too: true is what makes the same point, and not what is eight times the same.
func TestLowOrders(t *testing.T) {
	d, l := drawer(9), lows(t)
	taken, asked := 0, 0
	for _, s := range []*big.Int{big.NewInt(0), d.number(), d.number()} {
		for i := range l {
			public := curve.Encode(curve.Add(based(s), l[i]))
			for j := range l {
				r := d.number()
				first := curve.Encode(curve.Add(based(r), l[j]))
				for range 5 {
					text := d.text(asked % 90)
					k := hashed(first[:], public[:], text)
					second := new(big.Int).Mul(k, s)
					second.Mod(second.Add(second, r), order(1, 0))
					low := int(new(big.Int).Mod(k, big.NewInt(8)).Int64())
					want := (low*i+j)%8 == 0
					sig := joined(first, bytesOf(second))
					if got := sign.Verify(public, text, sig); got != want {
						t.Fatalf("Verify(%x, %x, %x): %v, want %v; the low points are %d and %d, k is %d modulo 8", public, text, sig, got, want, i, j, low)
					}
					asked++
					if want {
						taken++
					}
				}
			}
		}
	}
	if taken < asked/16 || taken > asked/2 {
		t.Errorf("%d of %d are taken", taken, asked)
	}
}

// What makes a point of low order, with that point's bytes and with others that are read as it.
func TestFirstHalfThatIsNoPoint(t *testing.T) {
	d, l := drawer(10), lows(t)
	for i := range l {
		public := curve.Encode(l[i])
		for _, first := range [][32]byte{
			bytesOf(prime(0)), topped(bytesOf(prime(0))), bytesOf(prime(1)), topped(bytesOf(prime(1))), topped(bytesOf(prime(-1))), topped([32]byte{1}), {2},
		} {
			for n := range 12 {
				refused(t, public, d.text(n), joined(first, [32]byte{}), "a first half that is no point's bytes", i)
			}
		}
	}
	// Of the zero point as a key each multiple is the zero point, so that its bytes are the only ones.
	for n := range 12 {
		if text := d.text(n); !sign.Verify([32]byte{1}, text, joined([32]byte{1}, [32]byte{})) {
			t.Fatalf("Verify(01 00 .., %x, 01 00 ..): false", text)
		}
	}
	public, sig := made(t, d.bytes(), nil)
	for _, first := range [][32]byte{{}, {1}, {2}, topped([32]byte{1}), bytesOf(prime(0)), bytesOf(prime(1)), bytesOf(shift(256, -1))} {
		refused(t, public, nil, joined(first, half(sig, 1)), "another first half")
	}
}

// With the zero point as a key the first half is right for each number: only the bound is left to tell.
func TestSecondHalfAtTheBound(t *testing.T) {
	d := drawer(11)
	for _, c := range []struct {
		n    *big.Int
		want bool
	}{
		{big.NewInt(0), true}, {big.NewInt(1), true}, {big.NewInt(255), true}, {shift(252, -1), true}, {shift(252, 0), true}, {shift(252, 1), true},
		{order(1, -2), true}, {order(1, -1), true}, {order(1, 0), false}, {order(1, 1), false}, {order(1, 2), false}, {order(2, -1), false}, {order(2, 0), false},
		{order(8, 0), false}, {order(15, 0), false}, {shift(253, -1), false}, {shift(253, 0), false}, {shift(254, 0), false},
		{shift(255, -1), false}, {shift(255, 0), false}, {shift(256, -1), false}, {d.number(), true}, {d.number(), true},
	} {
		public, sig := [32]byte{1}, joined(curve.Encode(based(c.n)), bytesOf(c.n))
		if got := sign.Verify(public, nil, sig); got != c.want {
			t.Errorf("Verify(01 00 .., nothing, %x): %v", sig, got)
		}
		// With a real key it is a signature of nothing.
		public, _ = made(t, d.bytes(), nil)
		refused(t, public, nil, sig, "a second half that doesn't fit")
		_, sig = made(t, d.bytes(), nil)
		refused(t, public, nil, joined(half(sig, 0), bytesOf(c.n)), "a second half that doesn't fit")
	}
}

// P11.3

func TestWhatWasSignedIsVerified(t *testing.T) {
	d := drawer(12)
	l := seeds()
	for i, n := range []int{0, 1, 15, 31, 32, 33, 47, 48, 63, 64, 79, 80, 95, 96, 111, 112, 127, 128, 129, 255, 256, 1000, 5000, 70000} {
		for _, seed := range [][32]byte{l[i%len(l)], d.bytes(), d.bytes()} {
			text := d.text(n)
			if public, sig := sign.Public(seed), sign.Sign(seed, text); !sign.Verify(public, text, sig) {
				t.Fatalf("Verify(%x, %d bytes, %x): false", public, n, sig)
			}
		}
	}
	for _, seed := range l {
		if public, sig := sign.Public(seed), sign.Sign(seed, seed[:]); !sign.Verify(public, seed[:], sig) {
			t.Fatalf("Verify(%x, %x, %x): false", public, seed, sig)
		}
	}
}

func TestSecondHalfOfLMore(t *testing.T) {
	d := drawer(13)
	for n := range 30 {
		seed, text := d.bytes(), d.text(n)
		public, sig := made(t, seed, text)
		second := whole(sig[32:])
		if second.Cmp(order(1, 0)) >= 0 {
			t.Fatalf("Sign(%x, %x): the second half of %x is L or more", seed, text, sig)
		}
		more := 0
		for second.Add(second, order(1, 0)); second.BitLen() <= 256; second.Add(second, order(1, 0)) {
			more++
			refused(t, public, text, joined(half(sig, 0), bytesOf(second)), "a second half with L added", more)
		}
		if more < 14 {
			t.Fatalf("L was added %d times", more)
		}
	}
}

// Rules that hold everywhere

func TestTextsAreLeft(t *testing.T) {
	d := drawer(14)
	for _, n := range []int{0, 1, 32, 64, 96, 112, 128, 1000} {
		seed, memory := d.bytes(), d.text(n+300)
		before := slices.Clone(memory)
		text := memory[100 : 100+n]
		public, sig := made(t, seed, slices.Clone(text))
		if sign.Sign(seed, text) != sig || !sign.Verify(public, text, sig) {
			t.Fatalf("a text of %d bytes with room behind it is another one", n)
		}
		sig[40] ^= 1
		refused(t, public, text, sig, "another bit")
		if !bytes.Equal(memory, before) {
			t.Fatalf("a text of %d bytes, or what is about it, was changed", n)
		}
		// Nor is it kept.
		clear(memory)
		if sig[40] ^= 1; sign.Sign(seed, before[100:100+n]) != sig || !sign.Verify(public, before[100:100+n], sig) {
			t.Fatalf("a text of %d bytes was kept", n)
		}
	}
}

func TestNilIsEmpty(t *testing.T) {
	for _, seed := range seeds() {
		public, sig := made(t, seed, nil)
		if sign.Sign(seed, []byte{}) != sig || sign.Sign(seed, []byte("text")[:0]) != sig {
			t.Fatalf("Sign(%x) of nil and of no bytes are unlike", seed)
		}
		if !sign.Verify(public, nil, sig) || !sign.Verify(public, []byte{}, sig) || !sign.Verify(public, []byte("text")[:0], sig) {
			t.Fatalf("Verify of %x: nil and no bytes are unlike", sig)
		}
	}
}

func TestTheSameAgain(t *testing.T) {
	d := drawer(15)
	seed, text := d.bytes(), d.text(100)
	public, sig := made(t, seed, text)
	for range 5 {
		made(t, d.bytes(), d.text(30))
		sign.Verify(d.bytes(), d.text(30), [64]byte(d.text(64)))
		if sign.Public(seed) != public || sign.Sign(seed, text) != sig || !sign.Verify(public, text, sig) {
			t.Fatalf("of %x and %x: not the same again", seed, text)
		}
	}
}
