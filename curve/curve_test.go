package curve_test

import (
	"crypto/ed25519"
	"crypto/sha512"
	"encoding/hex"
	"math/big"
	"slices"
	"testing"

	"missive/curve"
	"missive/ladder"
)

// drawer makes bytes that look like thrown ones, the same each time.
type drawer uint64

func (d *drawer) bytes() (b [32]byte) {
	for i := range b {
		*d = *d*6364136223846793005 + 1442695040888963407
		b[i] = byte(*d >> 56)
	}
	return b
}

// spot is a point by drawn bytes.
func (d *drawer) spot() *spot {
	for {
		if p := found(d.bytes()); p != nil {
			return p
		}
	}
}

// key are the bytes that a text of base sixteen says.
func key(t *testing.T, s string) [32]byte {
	t.Helper()
	b, err := hex.DecodeString(s)
	if err != nil || len(b) != 32 {
		t.Fatalf("%q says no 32 bytes", s)
	}
	return [32]byte(b)
}

// shift is 2^n and more.
func shift(n uint, more int64) *big.Int {
	x := new(big.Int).Lsh(big.NewInt(1), n)
	return x.Add(x, big.NewInt(more))
}

// prime is p and more.
func prime(more int64) *big.Int { return shift(255, more-19) }

// order is k times L, and more.
func order(k, more int64) *big.Int {
	x, _ := new(big.Int).SetString("27742317777372353535851937790883648493", 10)
	x.Add(x, shift(252, 0))
	x.Mul(x, big.NewInt(k))
	return x.Add(x, big.NewInt(more))
}

// whole is the number of all 256 bits of the bytes, the least first.
func whole(b [32]byte) *big.Int {
	slices.Reverse(b[:])
	return new(big.Int).SetBytes(b[:])
}

// bytesOf are the 32 bytes of a number that has no more, the least first.
func bytesOf(n *big.Int) (b [32]byte) {
	n.FillBytes(b[:])
	slices.Reverse(b[:])
	return b
}

// topped are the bytes with the topmost bit set.
func topped(b [32]byte) [32]byte {
	b[31] |= 128
	return b
}

// Another reckoning: whole numbers modulo p, and the rule for sums as the chapter has it.

func modulo(n *big.Int) *big.Int   { return n.Mod(n, prime(0)) }
func times(a, b *big.Int) *big.Int { return modulo(new(big.Int).Mul(a, b)) }
func plus(a, b *big.Int) *big.Int  { return modulo(new(big.Int).Add(a, b)) }
func less(a, b *big.Int) *big.Int  { return modulo(new(big.Int).Sub(a, b)) }
func part(a, b *big.Int) *big.Int  { return times(a, new(big.Int).ModInverse(b, prime(0))) }

var (
	zero = big.NewInt(0)
	one  = big.NewInt(1)
	d    = part(big.NewInt(-121665), big.NewInt(121666))
)

// spot is a point by its two numbers.
type spot struct{ x, y *big.Int }

// on tells whether the point is one of the curve.
func (p *spot) on() bool {
	x, y := times(p.x, p.x), times(p.y, p.y)
	return less(y, x).Cmp(plus(one, times(d, times(x, y)))) == 0
}

// bytes are those of the point, as the chapter says.
func (p *spot) bytes() [32]byte {
	b := bytesOf(p.y)
	b[31] |= byte(p.x.Bit(0)) << 7
	return b
}

// contrary is (-x, y).
func (p *spot) contrary() *spot { return &spot{less(zero, p.x), p.y} }

// joined is the sum of two points.
func joined(p, q *spot) *spot {
	xw, vy, yw, xv := times(p.x, q.y), times(q.x, p.y), times(p.y, q.y), times(p.x, q.x)
	all := times(d, times(xv, yw))
	return &spot{part(plus(xw, vy), plus(one, all)), part(plus(yw, xv), less(one, all))}
}

// doubles are the point, twice the point, and so on: 256 of them.
func doubles(p *spot) (l []*spot) {
	for range 256 {
		l = append(l, p)
		p = joined(p, p)
	}
	return l
}

// multiple is n times the point that has these doubles.
func multiple(n *big.Int, doubles []*spot) *spot {
	sum := &spot{zero, one}
	for i, p := range doubles {
		if n.Bit(i) != 0 {
			sum = joined(sum, p)
		}
	}
	return sum
}

// found is the point whose bytes b are, or nil.
func found(b [32]byte) *spot {
	odd := uint(b[31] >> 7)
	b[31] &= 127
	y := whole(b)
	if y.Cmp(prime(0)) >= 0 {
		return nil
	}
	square := times(y, y)
	x := new(big.Int).ModSqrt(part(less(square, one), plus(times(d, square), one)), prime(0))
	if x == nil {
		return nil
	}
	if x.Bit(0) != odd {
		x = less(zero, x)
	}
	if x.Bit(0) != odd {
		return nil
	}
	return &spot{x, y}
}

// point is the program's point.
func point(t *testing.T, p *spot) curve.Point {
	t.Helper()
	got, ok := curve.Decode(p.bytes())
	if !ok {
		t.Fatalf("Decode(%x): false", p.bytes())
	}
	return got
}

// same asks whether a point is the one that is wanted: by its bytes, and held against the one that Decode makes of them.
func same(t *testing.T, p curve.Point, want *spot, what string, args ...any) {
	t.Helper()
	if got := curve.Encode(p); got != want.bytes() {
		t.Fatalf("%s of %x: %x, want %x", what, args, got, want.bytes())
	}
	if p != point(t, want) {
		t.Fatalf("%s of %x: it has the bytes %x, but isn't the point of them", what, args, want.bytes())
	}
}

// decoded asks for Decode beside the other reckoning, and tells whether there is a point.
func decoded(t *testing.T, b [32]byte) bool {
	t.Helper()
	before := b
	p, ok := curve.Decode(b)
	want := found(b)
	if ok != (want != nil) {
		t.Fatalf("Decode(%x): %v, want %v", b, ok, want != nil)
	}
	if !ok && p != (curve.Point{}) {
		t.Fatalf("Decode(%x): a point beside false: %x", b, curve.Encode(p))
	}
	if ok && curve.Encode(p) != b {
		t.Fatalf("Encode of Decode(%x): %x", b, curve.Encode(p))
	}
	if ok && curve.Encode(curve.Neg(p)) != want.contrary().bytes() {
		t.Fatalf("Encode of Neg of Decode(%x): %x", b, curve.Encode(curve.Neg(p)))
	}
	if b != before {
		t.Fatalf("Decode has changed %x", before)
	}
	return ok
}

// base is the base, by the chapter's words.
func base() *spot {
	return found(bytesOf(part(big.NewInt(4), big.NewInt(5))))
}

// lows are the eight points of which eight make the zero point, each once more than the one ahead of it.
func lows() (l []*spot) {
	// L times any point is one of them; of this one it is one whose multiples are all eight.
	p := multiple(order(1, 0), doubles(found([32]byte{3})))
	sum := &spot{zero, one}
	for range 8 {
		l = append(l, sum)
		sum = joined(sum, p)
	}
	return l
}

// spots are points of all kinds: the base, low orders, both together, and drawn ones with their contraries.
func spots() (l []*spot) {
	b := base()
	l = append(l, b, b.contrary(), joined(b, b))
	for _, p := range lows() {
		l = append(l, p, joined(b, p))
	}
	for n := range byte(10) {
		if p := found([32]byte{n + 2}); p != nil {
			l = append(l, p)
		}
	}
	d := drawer(100)
	for range 5 {
		p := d.spot()
		l = append(l, p, p.contrary())
	}
	return l
}

// numbers are those at the edges, of all 256 bits.
func numbers() (l [][32]byte) {
	for _, n := range []*big.Int{
		zero, one, big.NewInt(2), big.NewInt(3), big.NewInt(7), big.NewInt(8), big.NewInt(9), big.NewInt(255), big.NewInt(256),
		order(1, -2), order(1, -1), order(1, 0), order(1, 1), order(1, 2), order(2, 0), order(4, 0), order(8, -1), order(8, 0), order(8, 1), order(15, 1),
		prime(-1), prime(0), shift(64, -1), shift(128, 0), shift(252, 0), shift(253, -1), shift(254, 0), shift(255, -19),
		shift(255, -1), shift(255, 0), shift(255, 1), shift(256, -2), shift(256, -1),
	} {
		l = append(l, bytesOf(n))
	}
	d := drawer(200)
	for range 6 {
		l = append(l, d.bytes(), topped(d.bytes()))
	}
	return l
}

// P10.1

func TestChapterExamples(t *testing.T) {
	want := [32]byte(append([]byte{0x58}, slices.Repeat([]byte{0x66}, 31)...))
	if got := curve.Encode(curve.Base()); got != want {
		t.Errorf("Encode(Base()): %x", got)
	}
	if p, ok := curve.Decode([32]byte{1}); !ok || p != (curve.Point{}) || curve.Encode(p) != ([32]byte{1}) {
		t.Errorf("Decode(01 00 ..): %x, %v", curve.Encode(p), ok)
	}
	if p, ok := curve.Decode([32]byte{1, 31: 128}); ok || p != (curve.Point{}) {
		t.Errorf("Decode(01 00 .. 80): %x, %v", curve.Encode(p), ok)
	}
	if got, want := curve.Mul([32]byte{2}, curve.Base()), curve.Add(curve.Base(), curve.Base()); curve.Encode(got) != curve.Encode(want) {
		t.Errorf("Mul(2, Base()): %x, and Add(Base(), Base()): %x", curve.Encode(got), curve.Encode(want))
	}
}

func TestBase(t *testing.T) {
	want := base()
	if !want.on() || want.x.Bit(0) != 0 || times(want.y, big.NewInt(5)).Cmp(big.NewInt(4)) != 0 {
		t.Fatalf("the other reckoning's base is %x", want.bytes())
	}
	same(t, curve.Base(), want, "Base")
	if curve.Base() != curve.Base() {
		t.Error("Base twice is two points")
	}
	// What is made of it hangs on its x as well.
	same(t, curve.Neg(curve.Base()), want.contrary(), "Neg of Base")
	same(t, curve.Add(curve.Base(), curve.Base()), joined(want, want), "twice the base")
}

func TestZeroValueIsTheZeroPoint(t *testing.T) {
	var zero curve.Point
	if got := curve.Encode(zero); got != ([32]byte{1}) {
		t.Errorf("Encode of the zero value: %x", got)
	}
	all := curve.Base()
	for i, p := range []curve.Point{
		zero, curve.Neg(zero), curve.Add(zero, zero), curve.Mul([32]byte{}, curve.Base()), curve.Mul([32]byte{}, zero), curve.Mul([32]byte{7}, zero),
		curve.Add(all, curve.Neg(all)), curve.Mul(bytesOf(order(1, 0)), all),
	} {
		if p != zero || curve.Encode(p) != ([32]byte{1}) {
			t.Errorf("the zero point in the way %d: %x", i, curve.Encode(p))
		}
		if curve.Add(p, all) != all || curve.Add(all, p) != all {
			t.Errorf("the zero point in the way %d changes the base", i)
		}
	}
}

func TestDecodeEdges(t *testing.T) {
	for _, c := range []struct {
		y             *big.Int
		without, with bool
	}{
		{zero, true, true}, {one, true, false}, {big.NewInt(2), false, false}, {big.NewInt(3), true, true},
		{prime(-3), true, true}, {prime(-2), false, false}, {prime(-1), true, false},
		{prime(0), false, false}, {prime(1), false, false}, {prime(2), false, false}, {prime(3), false, false},
		{prime(17), false, false}, {shift(255, -1), false, false},
	} {
		b := bytesOf(c.y)
		if _, ok := curve.Decode(b); ok != c.without {
			t.Errorf("Decode(%x): %v", b, ok)
		}
		if _, ok := curve.Decode(topped(b)); ok != c.with {
			t.Errorf("Decode(%x): %v", topped(b), ok)
		}
		decoded(t, b)
		decoded(t, topped(b))
	}
}

func TestDecodeOfNoNumberBelowP(t *testing.T) {
	for more := range int64(19) {
		for _, b := range [][32]byte{bytesOf(prime(more)), topped(bytesOf(prime(more)))} {
			if p, ok := curve.Decode(b); ok || p != (curve.Point{}) {
				t.Errorf("Decode(%x): %x, %v", b, curve.Encode(p), ok)
			}
		}
	}
}

// About half of all y have an x: each number about 0, p, 2^255 and the powers of 2.
func TestDecodeBesideAnotherReckoning(t *testing.T) {
	var l []*big.Int
	for more := range int64(60) {
		l = append(l, big.NewInt(more), prime(more-41))
	}
	for n := uint(8); n < 255; n += 3 {
		l = append(l, shift(n, -1), shift(n, 0), shift(n, 1))
	}
	taken := 0
	for _, n := range l {
		for _, b := range [][32]byte{bytesOf(n), topped(bytesOf(n))} {
			if decoded(t, b) {
				taken++
			}
		}
	}
	if taken < len(l)/2 || taken > 3*len(l)/2 {
		t.Errorf("%d of %d are taken", taken, 2*len(l))
	}
}

func TestDecodeDrawnBytes(t *testing.T) {
	d := drawer(1)
	taken := 0
	for range 1000 {
		b := d.bytes()
		if decoded(t, b) {
			taken++
		}
		b[31] ^= 128
		if decoded(t, b) {
			taken++
		}
	}
	if taken < 800 || taken > 1200 {
		t.Errorf("%d of 2000 are taken", taken)
	}
}

// Each byte of the base's in each place, and each bit the other way.
func TestDecodeEachByte(t *testing.T) {
	b := base().bytes()
	for at := range b {
		for bit := range 8 {
			other := b
			other[at] ^= 1 << bit
			decoded(t, other)
		}
		for _, x := range []byte{0, 1, 127, 128, 255} {
			other := b
			other[at] = x
			decoded(t, other)
		}
	}
}

// The two that have one y are each other's contrary, and nothing else has their bytes.
func TestTopmostBitTellsTheTwoApart(t *testing.T) {
	d := drawer(2)
	for range 100 {
		p := d.spot()
		a, b := point(t, p), point(t, p.contrary())
		if a == b || curve.Neg(a) != b || curve.Neg(b) != a {
			t.Fatalf("of %x: Neg of it isn't the other one", p.bytes())
		}
		x, y := curve.Encode(a), curve.Encode(b)
		x[31] ^= 128
		if x != y {
			t.Fatalf("of %x: the contrary's bytes are %x", p.bytes(), y)
		}
	}
}

// The eight points of low orders, by the bytes by which they are known.
func TestKnownLowOrders(t *testing.T) {
	zero := curve.Point{}
	for _, c := range []struct {
		b     string
		order byte
	}{
		{"0100000000000000000000000000000000000000000000000000000000000000", 1},
		{"ecffffffffffffffffffffffffffffffffffffffffffffffffffffffffffff7f", 2},
		{"0000000000000000000000000000000000000000000000000000000000000000", 4},
		{"0000000000000000000000000000000000000000000000000000000000000080", 4},
		{"26e8958fc2b227b045c3f489f2ef98f0d5dfac05d3c63339b13802886d53fc05", 8},
		{"26e8958fc2b227b045c3f489f2ef98f0d5dfac05d3c63339b13802886d53fc85", 8},
		{"c7176a703d4dd84fba3c0b760d10670f2a2053fa2c39ccc64ec7fd7792ac037a", 8},
		{"c7176a703d4dd84fba3c0b760d10670f2a2053fa2c39ccc64ec7fd7792ac03fa", 8},
	} {
		p, ok := curve.Decode(key(t, c.b))
		if !ok || curve.Encode(p) != key(t, c.b) {
			t.Fatalf("Decode(%s): %x, %v", c.b, curve.Encode(p), ok)
		}
		sum := zero
		for n := range byte(17) {
			if (sum == zero) != (n%c.order == 0) || curve.Mul([32]byte{n}, p) != sum {
				t.Errorf("%d times %s: %x, and by sums %x", n, c.b, curve.Encode(curve.Mul([32]byte{n}, p)), curve.Encode(sum))
			}
			sum = curve.Add(sum, p)
		}
	}
}

// P10.2

func TestAddEachPair(t *testing.T) {
	l := spots()
	for _, p := range l {
		for _, q := range l {
			same(t, curve.Add(point(t, p), point(t, q)), joined(p, q), "Add", p.bytes(), q.bytes())
		}
	}
}

func TestAddDrawnPoints(t *testing.T) {
	d := drawer(3)
	for range 200 {
		p, q := d.spot(), d.spot()
		same(t, curve.Add(point(t, p), point(t, q)), joined(p, q), "Add", p.bytes(), q.bytes())
	}
}

func TestAddOfAPointAndItselfAndItsContrary(t *testing.T) {
	d := drawer(4)
	for _, p := range append(spots(), d.spot(), d.spot()) {
		a := point(t, p)
		same(t, curve.Add(a, a), joined(p, p), "Add with itself", p.bytes())
		for _, sum := range []curve.Point{curve.Add(a, curve.Neg(a)), curve.Add(curve.Neg(a), a)} {
			if sum != (curve.Point{}) || curve.Encode(sum) != ([32]byte{1}) {
				t.Fatalf("Add of %x and its contrary: %x", p.bytes(), curve.Encode(sum))
			}
		}
		for _, sum := range []curve.Point{curve.Add(a, curve.Point{}), curve.Add(curve.Point{}, a)} {
			same(t, sum, p, "Add with the zero value", p.bytes())
		}
	}
}

func TestNeg(t *testing.T) {
	d := drawer(5)
	for _, p := range append(spots(), d.spot(), d.spot()) {
		a := point(t, p)
		same(t, curve.Neg(a), p.contrary(), "Neg", p.bytes())
		same(t, curve.Neg(curve.Neg(a)), p, "Neg of Neg", p.bytes())
		// Not its bytes alone: sums with it are those with the contrary.
		same(t, curve.Add(curve.Neg(a), curve.Base()), joined(p.contrary(), base()), "Neg and the base", p.bytes())
	}
}

// What sums leave is as good for a sum as what Decode took.
func TestLongChains(t *testing.T) {
	d := drawer(6)
	l := spots()
	for range 10 {
		p := d.spot()
		a := point(t, p)
		for range 60 {
			step := d.bytes()
			q := l[int(step[0])%len(l)]
			switch step[1] % 4 {
			case 0:
				a, p = curve.Add(a, point(t, q)), joined(p, q)
			case 1:
				a, p = curve.Add(point(t, q), a), joined(p, q)
			case 2:
				a, p = curve.Neg(a), p.contrary()
			default:
				a, p = curve.Add(a, a), joined(p, p)
			}
			same(t, a, p, "a chain to", q.bytes())
		}
	}
}

func TestMulSmallNumbers(t *testing.T) {
	for _, p := range append(spots(), &spot{zero, one}) {
		a, sum := point(t, p), &spot{zero, one}
		for n := range byte(12) {
			same(t, curve.Mul([32]byte{n}, a), sum, "Mul", n, p.bytes())
			sum = joined(sum, p)
		}
	}
	sum := curve.Point{}
	for n := range int64(600) {
		if got := curve.Mul(bytesOf(big.NewInt(n)), curve.Base()); got != sum {
			t.Fatalf("%d times the base: %x, and by sums %x", n, curve.Encode(got), curve.Encode(sum))
		}
		sum = curve.Add(sum, curve.Base())
	}
}

func TestMulOfEachPointByEachNumber(t *testing.T) {
	for _, p := range spots() {
		a, l := point(t, p), doubles(p)
		for _, n := range numbers() {
			same(t, curve.Mul(n, a), multiple(whole(n), l), "Mul", n, p.bytes())
		}
	}
}

func TestMulOfTheZeroPoint(t *testing.T) {
	taken, _ := curve.Decode([32]byte{1})
	made := curve.Add(curve.Base(), curve.Neg(curve.Base()))
	for _, n := range numbers() {
		for _, p := range []curve.Point{{}, taken, made} {
			if got := curve.Mul(n, p); got != (curve.Point{}) || curve.Encode(got) != ([32]byte{1}) {
				t.Fatalf("Mul(%x) of the zero point: %x", n, curve.Encode(got))
			}
		}
	}
}

func TestMulDrawnNumbers(t *testing.T) {
	d := drawer(7)
	for range 20 {
		p := d.spot()
		a, l := point(t, p), doubles(p)
		for range 5 {
			n := d.bytes()
			same(t, curve.Mul(n, a), multiple(whole(n), l), "Mul", n, p.bytes())
		}
	}
}

// Each bit alone, of a drawn point and of one of a low order.
func TestMulPowersOfTwo(t *testing.T) {
	d := drawer(8)
	for _, p := range []*spot{base(), d.spot(), lows()[1]} {
		a := point(t, p)
		for i, want := range doubles(p) {
			same(t, curve.Mul(bytesOf(shift(uint(i), 0)), a), want, "Mul with 2 to the", i, p.bytes())
		}
	}
}

// The public key of a seed is a number times the base.
func TestMulOfTheBaseBesideTheLibrary(t *testing.T) {
	d := drawer(9)
	for range 300 {
		seed := d.bytes()
		h := sha512.Sum512(seed[:])
		n := [32]byte(h[:32])
		n[0] &^= 7
		n[31] = n[31]&127 | 64
		want := [32]byte(ed25519.NewKeyFromSeed(seed[:]).Public().(ed25519.PublicKey))
		if got := curve.Encode(curve.Mul(n, curve.Base())); got != want {
			t.Fatalf("Mul(%x, Base()): %x, want %x", n, got, want)
		}
	}
}

// What RFC 8032 has for a seed, written out.
func TestMulOfTheBaseAsPublished(t *testing.T) {
	seed := key(t, "9d61b19deffd5a60ba844af492ec2cc44449c5697b326919703bac031cae7f60")
	h := sha512.Sum512(seed[:])
	n := [32]byte(h[:32])
	n[0] &^= 7
	n[31] = n[31]&127 | 64
	want := key(t, "d75a980182b10ab7d54bfed3c964073a0ee172f3daa62325af021a68f707511a")
	if got := curve.Encode(curve.Mul(n, curve.Base())); got != want {
		t.Errorf("Mul(%x, Base()): %x, want %x", n, got, want)
	}
}

// crossed is the number by which the ladder's curve has the point: (1 + y) / (1 - y).
func crossed(y *big.Int) [32]byte { return bytesOf(part(plus(one, y), less(one, y))) }

func TestMulBesideTheLadder(t *testing.T) {
	d := drawer(10)
	for range 100 {
		p, n := d.spot(), d.bytes()
		n[0] &^= 7
		n[31] = n[31]&127 | 64
		b := curve.Encode(curve.Mul(n, point(t, p)))
		b[31] &= 127
		if got, want := crossed(whole(b)), ladder.Mul(n, crossed(p.y)); got != want {
			t.Fatalf("Mul(%x) of %x: %x on the ladder's curve, want %x", n, p.bytes(), got, want)
		}
	}
}

// P10.3

func TestDecodeOfEncode(t *testing.T) {
	var l []curve.Point
	for _, p := range spots() {
		l = append(l, point(t, p))
	}
	d := drawer(11)
	for _, n := range numbers() {
		p := point(t, d.spot())
		l = append(l, curve.Mul(n, curve.Base()), curve.Mul(n, p), curve.Neg(curve.Mul(n, p)), curve.Add(curve.Mul(n, p), p))
	}
	for _, p := range append(l, curve.Point{}, curve.Base()) {
		b := curve.Encode(p)
		if again, ok := curve.Decode(b); !ok || again != p || curve.Encode(again) != b {
			t.Fatalf("Decode(%x): %x, %v", b, curve.Encode(again), ok)
		}
		if !found(b).on() {
			t.Fatalf("%x isn't on the curve", b)
		}
	}
}

func TestSumsInAnyOrder(t *testing.T) {
	d := drawer(12)
	l := []curve.Point{{}, curve.Base(), curve.Neg(curve.Base()), point(t, d.spot()), point(t, d.spot())}
	for _, p := range lows() {
		l = append(l, point(t, p))
	}
	for _, p := range l {
		for _, q := range l {
			if curve.Add(p, q) != curve.Add(q, p) {
				t.Fatalf("Add of %x and %x hangs on the order", curve.Encode(p), curve.Encode(q))
			}
			for _, r := range l {
				if curve.Add(curve.Add(p, q), r) != curve.Add(p, curve.Add(q, r)) {
					t.Fatalf("Add of %x, %x and %x hangs on what is put together first", curve.Encode(p), curve.Encode(q), curve.Encode(r))
				}
			}
		}
	}
}

// Four points, put together in all orders.
func TestFourInAnyOrder(t *testing.T) {
	d := drawer(13)
	four := []curve.Point{point(t, d.spot()), point(t, lows()[3]), curve.Base(), point(t, d.spot())}
	want := curve.Add(curve.Add(four[0], four[1]), curve.Add(four[2], four[3]))
	for i := range 256 {
		a, b, c, e := i&3, i>>2&3, i>>4&3, i>>6&3
		if a != b && a != c && a != e && b != c && b != e && c != e {
			if got := curve.Add(four[a], curve.Add(four[b], curve.Add(four[c], four[e]))); got != want {
				t.Fatalf("in the order %d %d %d %d: %x, want %x", a, b, c, e, curve.Encode(got), curve.Encode(want))
			}
		}
	}
}

// summed asks whether Mul of a sum is the sum of both.
func summed(t *testing.T, a, b *big.Int, p curve.Point) {
	t.Helper()
	// Eight times L makes the zero point of each point, so that a sum of more than 256 bits may be taken modulo that.
	n := new(big.Int).Add(a, b)
	if n.BitLen() > 256 {
		n.Mod(n, order(8, 0))
	}
	got, want := curve.Mul(bytesOf(n), p), curve.Add(curve.Mul(bytesOf(a), p), curve.Mul(bytesOf(b), p))
	if got != want || curve.Encode(got) != curve.Encode(want) {
		t.Fatalf("%x and %x times %x: %x, and by the sum %x", a, b, curve.Encode(p), curve.Encode(want), curve.Encode(got))
	}
}

func TestMulOfASumIsTheSumOfBoth(t *testing.T) {
	d := drawer(14)
	for _, p := range spots() {
		for range 6 {
			summed(t, whole(d.bytes()), whole(d.bytes()), point(t, p))
		}
	}
	l := numbers()
	for i, n := range l {
		summed(t, whole(n), whole(l[(7*i+3)%len(l)]), point(t, d.spot()))
		summed(t, whole(n), whole(d.bytes()), curve.Base())
	}
}

func TestMulOfASumOfPointsAndOfAMul(t *testing.T) {
	d := drawer(15)
	for range 40 {
		p, q, n := point(t, d.spot()), point(t, d.spot()), d.bytes()
		if got, want := curve.Mul(n, curve.Add(p, q)), curve.Add(curve.Mul(n, p), curve.Mul(n, q)); got != want {
			t.Fatalf("%x times a sum: %x, want %x", n, curve.Encode(got), curve.Encode(want))
		}
		m := d.bytes()
		if got, want := curve.Mul(m, curve.Mul(n, p)), curve.Mul(n, curve.Mul(m, p)); got != want {
			t.Fatalf("%x times %x times: %x, want %x", m, n, curve.Encode(got), curve.Encode(want))
		}
		if got, want := curve.Mul(n, curve.Neg(p)), curve.Neg(curve.Mul(n, p)); got != want {
			t.Fatalf("%x times a contrary: %x, want %x", n, curve.Encode(got), curve.Encode(want))
		}
	}
}

func TestOrderOfTheBase(t *testing.T) {
	for k := range int64(16) {
		if got := curve.Mul(bytesOf(order(k, 0)), curve.Base()); got != (curve.Point{}) || curve.Encode(got) != ([32]byte{1}) {
			t.Errorf("%d times L times the base: %x", k, curve.Encode(got))
		}
		if got := curve.Mul(bytesOf(order(k, 1)), curve.Base()); got != curve.Base() {
			t.Errorf("%d times L, and 1, times the base: %x", k, curve.Encode(got))
		}
		if k > 0 && curve.Mul(bytesOf(order(k, -1)), curve.Base()) != curve.Neg(curve.Base()) {
			t.Errorf("%d times L, less 1, times the base isn't the contrary", k)
		}
	}
	// Of other points it is one of a low order: n isn't taken modulo L.
	for i, p := range lows() {
		got := curve.Mul(bytesOf(order(1, 0)), point(t, joined(p, base())))
		same(t, got, multiple(order(1, 0), doubles(p)), "L times the base and the low one", i)
		if (got == curve.Point{}) != (i == 0) {
			t.Errorf("L times the base and the low one %d: %x", i, curve.Encode(got))
		}
	}
}

// What is handed in (rules 5 and 6)

func TestArgumentsStayAsTheyAre(t *testing.T) {
	d := drawer(16)
	for _, s := range append(spots(), &spot{zero, one}) {
		n, b := d.bytes(), s.bytes()
		p, q := point(t, s), point(t, d.spot())
		m, c, r, s := n, b, p, q
		sum, product, contrary, bytes := curve.Add(p, q), curve.Mul(n, p), curve.Neg(p), curve.Encode(p)
		if m != n || c != b || r != p || s != q || curve.Encode(r) != bytes {
			t.Fatalf("%x or %x is changed", n, b)
		}
		curve.Mul(d.bytes(), point(t, d.spot()))
		if sum != curve.Add(p, q) || product != curve.Mul(n, p) || contrary != curve.Neg(p) || bytes != curve.Encode(p) {
			t.Fatalf("done twice, it isn't the same of %x and %x", n, b)
		}
	}
}

func TestAnswersAreTheCallers(t *testing.T) {
	p, b := curve.Base(), curve.Encode(curve.Base())
	p = curve.Add(p, p)
	clear(b[:])
	if again := curve.Encode(curve.Base()); again != base().bytes() || curve.Base() == p {
		t.Error("what is done with an answer changes the next one")
	}
}
