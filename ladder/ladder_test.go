package ladder_test

import (
	"crypto/ecdh"
	"encoding/hex"
	"math/big"
	"slices"
	"testing"

	"missive/ladder"
)

// drawer makes bytes that look like thrown ones, the same each time.
type drawer uint64

func (d *drawer) bytes() (b [32]byte) {
	for i := range b {
		*d = *d*6364136223846793005 + 1442695040888963407
		b[i] = byte(*d >> 56)
	}
	return b
}

// key are the bytes that a text of base sixteen says.
func key(t *testing.T, s string) [32]byte {
	t.Helper()
	b, err := hex.DecodeString(s)
	if err != nil || len(b) != 32 {
		t.Fatalf("%q says no 32 bytes", s)
	}
	return [32]byte(b)
}

// shift is 2^n and more.
func shift(n uint, more int64) *big.Int {
	x := new(big.Int).Lsh(big.NewInt(1), n)
	return x.Add(x, big.NewInt(more))
}

// prime is p and more.
func prime(more int64) *big.Int { return shift(255, more-19) }

// whole is the number of the bytes, the least first.
func whole(b [32]byte) *big.Int {
	slices.Reverse(b[:])
	return new(big.Int).SetBytes(b[:])
}

// bytesOf are the 32 bytes of a number that has no more, the least first.
func bytesOf(n *big.Int) (b [32]byte) {
	n.FillBytes(b[:])
	slices.Reverse(b[:])
	return b
}

// topped are the bytes with the topmost bit set.
func topped(b [32]byte) [32]byte {
	b[31] |= 128
	return b
}

// filled are 32 bytes that are all x.
func filled(x byte) [32]byte { return [32]byte(slices.Repeat([]byte{x}, 32)) }

// Another reckoning: the points with both of their numbers, by chords and tangents.

// spot is a point of scale y y = x x x + 486662 x x + x, modulo p; nil is the one that has no x.
type spot struct{ x, y *big.Int }

// modulo is the number from 0 to p - 1.
func modulo(n *big.Int) *big.Int { return n.Mod(n, prime(0)) }

func times(a, b *big.Int) *big.Int { return modulo(new(big.Int).Mul(a, b)) }
func plus(a, b *big.Int) *big.Int  { return modulo(new(big.Int).Add(a, b)) }
func less(a, b *big.Int) *big.Int  { return modulo(new(big.Int).Sub(a, b)) }
func part(a, b *big.Int) *big.Int  { return times(a, new(big.Int).ModInverse(b, prime(0))) }

// right is x x x + 486662 x x + x.
func right(x *big.Int) *big.Int {
	return times(x, plus(times(x, plus(x, big.NewInt(486662))), big.NewInt(1)))
}

// onCurve tells whether x is of the curve, and not of its twin.
func onCurve(x *big.Int) bool { return big.Jacobi(right(x), prime(0)) >= 0 }

// joined is the sum of two points.
func joined(p, q *spot, scale *big.Int) *spot {
	if p == nil {
		return q
	}
	if q == nil {
		return p
	}
	var slope *big.Int
	if p.x.Cmp(q.x) != 0 {
		slope = part(less(q.y, p.y), less(q.x, p.x))
	} else if p.y.Cmp(q.y) != 0 || p.y.Sign() == 0 {
		return nil
	} else {
		rise := times(p.x, plus(times(big.NewInt(3), p.x), big.NewInt(2*486662)))
		slope = part(plus(rise, big.NewInt(1)), times(big.NewInt(2), times(scale, p.y)))
	}
	x := less(less(times(scale, times(slope, slope)), big.NewInt(486662)), plus(p.x, q.x))
	return &spot{x, less(times(slope, less(p.x, x)), p.y)}
}

// multiple is the x of n times a point whose x is x, and 0 of the point that has none.
func multiple(n, x *big.Int) *big.Int {
	// The scale is such that y is 1: so x stands on the curve and on the twin alike. Of x 0 alone y is 0, whatever the scale.
	p, scale := &spot{x, big.NewInt(1)}, right(x)
	if scale.Sign() == 0 {
		p.y, scale = big.NewInt(0), big.NewInt(1)
	}
	var sum *spot
	for i := n.BitLen() - 1; i >= 0; i-- {
		sum = joined(sum, sum, scale)
		if n.Bit(i) != 0 {
			sum = joined(sum, p, scale)
		}
	}
	if sum == nil {
		return big.NewInt(0)
	}
	return sum.x
}

// number is the number as which a secret is taken.
func number(secret [32]byte) *big.Int {
	n := whole(secret)
	for _, i := range []int{0, 1, 2, 255} {
		n.SetBit(n, i, 0)
	}
	return n.SetBit(n, 254, 1)
}

// want is what Mul is to tell.
func want(secret, u [32]byte) [32]byte {
	x := whole(u)
	return bytesOf(multiple(number(secret), modulo(x.SetBit(x, 255, 0))))
}

// reckoned asks for Mul beside the other reckoning.
func reckoned(t *testing.T, secret, u [32]byte) {
	t.Helper()
	if got, want := ladder.Mul(secret, u), want(secret, u); got != want {
		t.Fatalf("Mul(%x, %x): %x, want %x", secret, u, got, want)
	}
}

// library is what the library's X25519 tells, which refuses what makes 0.
func library(t *testing.T, secret, u [32]byte) (b [32]byte) {
	t.Helper()
	own, err := ecdh.X25519().NewPrivateKey(secret[:])
	if err != nil {
		t.Fatal(err)
	}
	other, err := ecdh.X25519().NewPublicKey(u[:])
	if err != nil {
		t.Fatal(err)
	}
	if common, err := own.ECDH(other); err == nil {
		copy(b[:], common)
	}
	return b
}

// secrets are those at the edges, and some that are drawn.
func secrets() (l [][32]byte) {
	// Four times a great order, of the curve or of its twin, is nearest to what makes the point that has no x.
	c, _ := new(big.Int).SetString("27742317777372353535851937790883648493", 10)
	curve := new(big.Int).Lsh(c, 2)
	curve.Add(curve, shift(254, 0))
	twin := new(big.Int).Lsh(c, 3)
	twin.Sub(shift(255, -36), twin)
	for _, n := range []*big.Int{
		big.NewInt(0), big.NewInt(1), big.NewInt(7), big.NewInt(8), big.NewInt(9), prime(-1), prime(0), shift(253, 0), shift(254, -1),
		shift(254, 0), shift(254, 8), shift(254, 64), shift(255, -8), shift(255, -1), shift(255, 0), shift(255, 1), shift(256, -1),
		new(big.Int).Sub(curve, big.NewInt(4)), new(big.Int).Add(curve, big.NewInt(4)),
		new(big.Int).Sub(twin, big.NewInt(4)), new(big.Int).Add(twin, big.NewInt(4)),
	} {
		l = append(l, bytesOf(n))
	}
	d := drawer(100)
	for range 5 {
		l = append(l, d.bytes())
	}
	return l
}

// lows are the numbers of points of which eight make the one that has no x, and the same numbers and p.
func lows(t *testing.T) [][32]byte {
	return [][32]byte{
		{}, {1}, bytesOf(prime(-1)), bytesOf(prime(0)), bytesOf(prime(1)),
		key(t, "e0eb7a7c3b41b8ae1656e3faf19fc46ada098deb9c32b1fd866205165f49b800"),
		key(t, "5f9c95bca3508c24b1d0b1559c83ef5b04445cc4581c8e86d8224eddd09f1157"),
	}
}

// public are numbers at the edges, of the curve and of its twin.
func public(t *testing.T) (l [][32]byte) {
	l = lows(t)
	for n := range int64(20) {
		l = append(l, bytesOf(big.NewInt(n)), bytesOf(prime(n-1)))
	}
	for _, n := range []*big.Int{
		prime(-2), prime(-3), prime(-9), prime(-486662), big.NewInt(486662), shift(51, -1), shift(51, 0), shift(128, 0), shift(254, -1), shift(254, 0), shift(255, -1),
	} {
		l = append(l, bytesOf(n))
	}
	d := drawer(200)
	for range 8 {
		l = append(l, d.bytes())
	}
	return l
}

// P9.1

// The two of RFC 7748, 6.1, from which the chapter has its examples.
func TestChapterExamples(t *testing.T) {
	a := key(t, "77076d0a7318a57d3c16c17251b26645df4c2f87ebc0992ab177fba51db92c2a")
	b := key(t, "5dab087e624a8a4b79e17f8b83800ee66f3bb1292618b6fd1c2f8b27ff88e0eb")
	of := key(t, "8520f0098930a754748b7ddcb43ef75a0dbf3a0d26381af4eba4a98eaa9b4e6a")
	other := key(t, "de9edb7d7b7dc1b4d35b61c2ece435373f8343c85b78674dadfc7e146f882b4f")
	common := key(t, "4a5d9d5ba4ce2de1728e3bf480350f25e07e21c947d19e3376f09b3c1e161742")
	for _, c := range []struct {
		name      string
		got, want [32]byte
	}{
		{"Base(a)", ladder.Base(a), of}, {"Base(b)", ladder.Base(b), other},
		{"Mul(a, Base(b))", ladder.Mul(a, other), common}, {"Mul(b, Base(a))", ladder.Mul(b, of), common},
	} {
		if c.got != c.want {
			t.Errorf("%s: %x, want %x", c.name, c.got, c.want)
		}
	}
}

// The two of RFC 7748, 5.2; the second one's u has its topmost bit set.
func TestKnownProducts(t *testing.T) {
	for _, c := range []struct{ secret, u, want string }{
		{
			"a546e36bf0527c9d3b16154b82465edd62144c0ac1fc5a18506a2244ba449ac4",
			"e6db6867583030db3594c1a424b15f7c726624ec26b3353b10a903a6d0ab1c4c",
			"c3da55379de9c6908e94ea4df28d084f32eccf03491c71f754b4075577a28552",
		},
		{
			"4b66e9d4d1b4673c5ad22691957d6af5c11b6421e0ea01d42ca4169e7918ba0d",
			"e5210f12786811d3f4b7959d0538ae2c31dbe7106fc03c3efc4cd549c715a493",
			"95cbde9476e8907d7aade45cb4b873f88b595a68799fa152e6f8f7647aac7957",
		},
	} {
		if got := ladder.Mul(key(t, c.secret), key(t, c.u)); got != key(t, c.want) {
			t.Errorf("Mul(%s, %s): %x, want %s", c.secret, c.u, got, c.want)
		}
	}
}

// The thousand times of RFC 7748, 5.2: each answer is the next secret, and the secret the next u.
func TestAnswersHandedOn(t *testing.T) {
	secret, u := [32]byte{9}, [32]byte{9}
	for i := range 1000 {
		secret, u = ladder.Mul(secret, u), secret
		if i == 0 && secret != key(t, "422c8e7a6227d7bca1350b3e2bb7279f7897b87bb6854b783c60e80311ae3079") {
			t.Fatalf("once: %x", secret)
		}
	}
	if secret != key(t, "684cf59ba83309552800ef566f2f4d3c1c3887c49360e3875f2eb94d99532c51") {
		t.Errorf("a thousand times: %x", secret)
	}
}

func TestEachPublicNumber(t *testing.T) {
	d := drawer(1)
	curve, twin := 0, 0
	for _, u := range public(t) {
		secret := d.bytes()
		reckoned(t, secret, u)
		reckoned(t, secret, topped(u))
		if onCurve(whole(u)) {
			curve++
		} else {
			twin++
		}
	}
	if curve < 20 || twin < 20 {
		t.Errorf("%d of the curve and %d of its twin: too few", curve, twin)
	}
}

func TestEachSecret(t *testing.T) {
	// 9 is of the curve, 2 of its twin, 1 and -1 are of one low order each.
	for _, u := range [][32]byte{{9}, {2}, {1}, bytesOf(prime(-1))} {
		for _, secret := range secrets() {
			reckoned(t, secret, u)
		}
	}
}

func TestEachSecretWithEachPublicNumber(t *testing.T) {
	for _, secret := range secrets() {
		for _, u := range public(t) {
			if got, want := ladder.Mul(secret, u), library(t, secret, u); got != want {
				t.Fatalf("Mul(%x, %x): %x, want %x", secret, u, got, want)
			}
		}
	}
}

func TestDrawnNumbers(t *testing.T) {
	d := drawer(2)
	for i := range 1000 {
		secret, u := d.bytes(), d.bytes()
		if got, want := ladder.Mul(secret, u), library(t, secret, u); got != want {
			t.Fatalf("Mul(%x, %x): %x, want %x", secret, u, got, want)
		}
		if i < 50 {
			reckoned(t, secret, u)
		}
	}
}

// Each power of 2 as u, and each one as a secret.
func TestPowersOfTwo(t *testing.T) {
	d := drawer(3)
	for i := range uint(256) {
		secret, u, power := d.bytes(), d.bytes(), bytesOf(shift(i, 0))
		if got, want := ladder.Mul(secret, power), library(t, secret, power); got != want {
			t.Fatalf("Mul(%x, %x): %x, want %x", secret, power, got, want)
		}
		if got, want := ladder.Mul(power, u), library(t, power, u); got != want {
			t.Fatalf("Mul(%x, %x): %x, want %x", power, u, got, want)
		}
	}
}

func TestPublicNumberIsTakenModuloP(t *testing.T) {
	d := drawer(4)
	for n := range int64(19) {
		secret := d.bytes()
		low, high := bytesOf(big.NewInt(n)), bytesOf(prime(n))
		want := ladder.Mul(secret, low)
		for _, u := range [][32]byte{high, topped(low), topped(high)} {
			if got := ladder.Mul(secret, u); got != want {
				t.Fatalf("Mul(%x, %x): %x, want %x as of %d", secret, u, got, want, n)
			}
		}
	}
}

func TestTopmostBitOfAPublicNumberIsLeftOut(t *testing.T) {
	d := drawer(5)
	for range 200 {
		secret, u := d.bytes(), d.bytes()
		u[31] &= 127
		if a, b := ladder.Mul(secret, u), ladder.Mul(secret, topped(u)); a != b {
			t.Fatalf("of %x: %x without its topmost bit, %x with it", u, a, b)
		}
		// The bit below it counts.
		v := u
		v[31] ^= 64
		if a, b := ladder.Mul(secret, u), ladder.Mul(secret, v); a == b {
			t.Fatalf("of %x and of %x alike: %x", u, v, a)
		}
	}
}

func TestAnswersAreBelowP(t *testing.T) {
	d := drawer(6)
	for range 500 {
		secret, u := d.bytes(), d.bytes()
		for _, got := range [][32]byte{ladder.Mul(secret, u), ladder.Base(secret)} {
			if whole(got).Cmp(prime(0)) >= 0 {
				t.Fatalf("%x isn't below p", got)
			}
		}
	}
	for _, u := range public(t) {
		if got := ladder.Mul(d.bytes(), u); whole(got).Cmp(prime(0)) >= 0 {
			t.Fatalf("%x isn't below p", got)
		}
	}
}

func TestKnownBases(t *testing.T) {
	// The secrets 0 and 1 are both taken as 2^254, and bytes of 255 as 2^255 - 8.
	least := key(t, "2fe57da347cd62431528daac5fbb290730fff684afc4cfc2ed90995f58cb3b74")
	most := key(t, "847c0d2c375234f365e660955187a3735a0f7613d1609d3a6a4d8c53aeaa5a22")
	for _, c := range []struct{ secret, want [32]byte }{{filled(0), least}, {[32]byte{1}, least}, {filled(255), most}} {
		if got := ladder.Base(c.secret); got != c.want {
			t.Errorf("Base(%x): %x, want %x", c.secret, got, c.want)
		}
	}
}

func TestBaseIsMulWithNine(t *testing.T) {
	l := append(secrets(), filled(0), [32]byte{1}, filled(255))
	d := drawer(7)
	for range 300 {
		l = append(l, d.bytes())
	}
	for _, secret := range l {
		got := ladder.Base(secret)
		if want := ladder.Mul(secret, [32]byte{9}); got != want {
			t.Fatalf("Base(%x): %x, and Mul with 9: %x", secret, got, want)
		}
		if want := library(t, secret, [32]byte{9}); got != want {
			t.Fatalf("Base(%x): %x, want %x", secret, got, want)
		}
	}
}

// P9.2

func TestBothHaveTheSameInCommon(t *testing.T) {
	l := secrets()
	var bases [][32]byte
	for _, a := range l {
		bases = append(bases, ladder.Base(a))
	}
	for i, a := range l {
		for k, b := range l {
			x, y := ladder.Mul(a, bases[k]), ladder.Mul(b, bases[i])
			if x != y || x == ([32]byte{}) {
				t.Fatalf("of %x and %x: %x and %x", a, b, x, y)
			}
		}
	}
}

// either asks for what two secrets make of u, the one ahead of the other.
func either(t *testing.T, a, b, u [32]byte) {
	t.Helper()
	if x, y := ladder.Mul(a, ladder.Mul(b, u)), ladder.Mul(b, ladder.Mul(a, u)); x != y {
		t.Fatalf("of %x and %x, and %x: %x and %x", a, b, u, x, y)
	}
}

func TestSecretsInEitherOrder(t *testing.T) {
	l := secrets()
	for i, u := range public(t) {
		for k := range 5 {
			either(t, l[(i+k)%len(l)], l[(7*i+3*k+3)%len(l)], u)
		}
	}
	for i, a := range l {
		for _, u := range lows(t) {
			either(t, a, l[(7*i+3)%len(l)], u)
		}
	}
	d := drawer(8)
	for range 200 {
		either(t, d.bytes(), d.bytes(), d.bytes())
	}
}

// Other two have something else in common.
func TestOthersHaveAnotherInCommon(t *testing.T) {
	d := drawer(9)
	seen := map[[32]byte]bool{}
	u := d.bytes()
	for range 300 {
		seen[ladder.Mul(d.bytes(), u)] = true
	}
	if len(seen) != 300 {
		t.Errorf("of 300 secrets there are %d answers", len(seen))
	}
}

// P9.3

func TestNothingOfZeroAndOfLowOrders(t *testing.T) {
	for _, secret := range secrets() {
		for _, u := range lows(t) {
			for _, v := range [][32]byte{u, topped(u)} {
				if got := ladder.Mul(secret, v); got != ([32]byte{}) {
					t.Fatalf("Mul(%x, %x): %x", secret, v, got)
				}
			}
		}
	}
}

func TestBitsSetOrLeftOutChangeNothing(t *testing.T) {
	d := drawer(10)
	for _, secret := range append(secrets(), d.bytes(), d.bytes()) {
		u := d.bytes()
		want, base := ladder.Mul(secret, u), ladder.Base(secret)
		// Every one of the lowest three and the topmost two, set or not, beside every other one.
		for low := range byte(8) {
			for high := range byte(4) {
				other := secret
				other[0] = other[0]&^7 | low
				other[31] = other[31]&63 | high<<6
				if got := ladder.Mul(other, u); got != want {
					t.Fatalf("Mul(%x, %x): %x, want %x as of %x", other, u, got, want, secret)
				}
				if got := ladder.Base(other); got != base {
					t.Fatalf("Base(%x): %x, want %x as of %x", other, got, base, secret)
				}
			}
		}
	}
}

func TestEachOtherBitChangesTheAnswer(t *testing.T) {
	d := drawer(11)
	secret, u := d.bytes(), d.bytes()
	want := ladder.Mul(secret, u)
	for i := range 256 {
		other := secret
		other[i/8] ^= 1 << (i % 8)
		if got, out := ladder.Mul(other, u), i < 3 || i > 253; (got == want) != out {
			t.Errorf("with the bit %d the other way: %x, and %x without", i, got, want)
		}
	}
}

// What is handed in (rules 5 and 6)

func TestArgumentsStayAsTheyAre(t *testing.T) {
	d := drawer(12)
	for _, u := range public(t) {
		secret := d.bytes()
		a, b := secret, topped(u)
		first, base := ladder.Mul(a, b), ladder.Base(a)
		if a != secret || b != topped(u) {
			t.Fatalf("%x or %x is changed", secret, topped(u))
		}
		ladder.Mul(d.bytes(), d.bytes())
		if first != ladder.Mul(a, b) || base != ladder.Base(a) {
			t.Fatalf("done twice, it isn't the same of %x and %x", a, b)
		}
	}
}

func TestAnswersAreTheCallers(t *testing.T) {
	secret := [32]byte{77}
	base, product := ladder.Base(secret), ladder.Mul(secret, [32]byte{3})
	x, y := base, product
	clear(x[:])
	clear(y[:])
	if ladder.Base(secret) != base || ladder.Mul(secret, [32]byte{3}) != product {
		t.Error("what is done with an answer changes the next one")
	}
}
