package field_test

import (
	"math/big"
	"slices"
	"testing"

	"missive/field"
)

// drawer makes bytes that look like thrown ones, the same each time.
type drawer uint64

func (d *drawer) bytes() (b [32]byte) {
	for i := range b {
		*d = *d*6364136223846793005 + 1442695040888963407
		b[i] = byte(*d >> 56)
	}
	return b
}

func (d *drawer) number() *big.Int { return modulo(whole(d.bytes())) }

// below tells a number from 0 to n - 1.
func (d *drawer) below(n int) int { return int(d.bytes()[0]) % n }

// shift is 2^n and more.
func shift(n uint, more int64) *big.Int {
	x := new(big.Int).Lsh(big.NewInt(1), n)
	return x.Add(x, big.NewInt(more))
}

// prime is p and more.
func prime(more int64) *big.Int { return shift(255, more-19) }

// modulo is the number from 0 to p - 1.
func modulo(n *big.Int) *big.Int { return new(big.Int).Mod(n, prime(0)) }

// whole is the number of all 256 bits of the bytes, the least first.
func whole(b [32]byte) *big.Int {
	slices.Reverse(b[:])
	return new(big.Int).SetBytes(b[:])
}

// bytesOf are the 32 bytes of a number that has no more, the least first.
func bytesOf(n *big.Int) (b [32]byte) {
	n.FillBytes(b[:])
	slices.Reverse(b[:])
	return b
}

// of is the program's number of n modulo p.
func of(n *big.Int) field.Fe { return field.Of(bytesOf(modulo(n))) }

// small is the program's number of n modulo p.
func small(n int64) field.Fe { return of(big.NewInt(n)) }

// alike are 32 bytes x.
func alike(x byte) (b [32]byte) {
	for i := range b {
		b[i] = x
	}
	return b
}

// same asks whether a number is that of n modulo p: by its bytes, and held against another one of those bytes.
func same(t *testing.T, a field.Fe, n *big.Int, what string, args ...*big.Int) {
	t.Helper()
	want := bytesOf(modulo(n))
	if got := field.Bytes(a); got != want {
		t.Fatalf("%s of %x: %x, want %x", what, args, got, want)
	}
	if a != field.Of(want) {
		t.Fatalf("%s of %x: it has the bytes %x, but isn't the number of them", what, args, want)
	}
}

// texts are bytes at all edges: numbers up to 2^256 - 1, those of p and above among them.
func texts() [][32]byte {
	l := [][32]byte{{}, alike(255), alike(127), alike(128), alike(1), alike(0x55), alike(0xaa)}
	add := func(n *big.Int) {
		if n.Sign() >= 0 && n.BitLen() <= 256 {
			l = append(l, bytesOf(n))
		}
	}
	for more := int64(-40); more <= 40; more++ {
		add(prime(more))
		add(new(big.Int).Add(prime(more), shift(255, 0)))
		add(big.NewInt(more))
		add(shift(255, more))
		add(shift(256, more))
	}
	for n := range uint(256) {
		for more := int64(-1); more <= 1; more++ {
			add(shift(n, more))
		}
	}
	for n := uint(51); n < 255; n += 51 {
		for more := int64(-20); more <= 20; more++ {
			add(shift(n, more))
		}
	}
	return l
}

// edges are numbers at which sums and products go on from limb to limb, and some that are drawn.
func edges() (l []*big.Int) {
	for _, more := range []int64{0, 1, 2, 3, 18, 19, 20, 37, 38, 39} {
		l = append(l, big.NewInt(more), prime(-1-more))
	}
	for n := uint(51); n <= 255; n += 51 {
		for _, more := range []int64{-20, -19, -2, -1, 0, 1, 2, 19} {
			l = append(l, modulo(shift(n, more)))
		}
		// The limb below 2^n full, all others 0; and the contrary of that.
		full := new(big.Int).Sub(shift(n, 0), shift(n-51, 0))
		l = append(l, modulo(full), modulo(new(big.Int).Neg(full)))
	}
	l = append(l, shift(254, 0), shift(254, -1), shift(254, -10), shift(254, -9), shift(128, 0), shift(64, -1))
	d := drawer(100)
	for range 20 {
		l = append(l, d.number())
	}
	return l
}

// P7.1

func TestOfAndBytes(t *testing.T) {
	for _, b := range texts() {
		n := whole(b)
		n.SetBit(n, 255, 0)
		same(t, field.Of(b), n, "Of", whole(b))
	}
}

func TestOfKnownBytes(t *testing.T) {
	ones := alike(255)
	for _, c := range []struct {
		n    *big.Int
		want [32]byte
	}{
		{big.NewInt(0), [32]byte{}}, {big.NewInt(1), [32]byte{1}}, {big.NewInt(256), [32]byte{0, 1}},
		{prime(-1), bytesOf(prime(-1))}, {prime(0), [32]byte{}}, {prime(1), [32]byte{1}}, {prime(18), [32]byte{18}},
		{prime(-2), bytesOf(prime(-2))}, {whole(ones), [32]byte{18}},
	} {
		b := bytesOf(c.n)
		for _, top := range []byte{0, 128} {
			b[31] = b[31]&127 | top
			if got := field.Bytes(field.Of(b)); got != c.want {
				t.Errorf("Of(%x): %x, want %x", b, got, c.want)
			}
		}
	}
	if last := field.Bytes(field.Of(bytesOf(prime(-1)))); last[0] != 236 || last[1] != 255 || last[30] != 255 || last[31] != 127 {
		t.Errorf("p - 1 is %x", last)
	}
}

func TestTopmostBitIsLeftOut(t *testing.T) {
	d := drawer(1)
	for _, b := range append(texts(), d.bytes(), d.bytes(), d.bytes()) {
		without, with := b, b
		without[31] &= 127
		with[31] |= 128
		if field.Of(without) != field.Of(with) {
			t.Fatalf("Of(%x) isn't Of(%x)", without, with)
		}
	}
}

func TestEachBitAndEachByte(t *testing.T) {
	for n := range uint(255) {
		same(t, field.Of(bytesOf(shift(n, 0))), shift(n, 0), "one bit", shift(n, 0))
	}
	d := drawer(2)
	base := d.bytes()
	for at := range 32 {
		for x := range 256 {
			b := base
			b[at] = byte(x)
			n := whole(b)
			n.SetBit(n, 255, 0)
			same(t, field.Of(b), n, "a byte in a place", whole(b))
		}
	}
}

func TestDrawnBytes(t *testing.T) {
	d := drawer(3)
	for range 5000 {
		b := d.bytes()
		n := whole(b)
		n.SetBit(n, 255, 0)
		same(t, field.Of(b), n, "Of", whole(b))
	}
}

func TestZeroValueIsNought(t *testing.T) {
	var zero field.Fe
	if field.Bytes(zero) != ([32]byte{}) || zero != field.Of([32]byte{}) || zero != field.Of(bytesOf(prime(0))) {
		t.Error("the zero value isn't 0")
	}
	for _, n := range edges() {
		a := of(n)
		same(t, field.Add(zero, a), n, "0 and", n)
		same(t, field.Sub(a, zero), n, "less 0", n)
		same(t, field.Mul(zero, a), big.NewInt(0), "0 times", n)
	}
	same(t, field.Neg(zero), big.NewInt(0), "Neg of 0")
	same(t, field.Inv(zero), big.NewInt(0), "Inv of 0")
}

// P7.2

// reckon asks for all that two numbers make, beside whole numbers.
func reckon(t *testing.T, x, y *big.Int) {
	t.Helper()
	a, b := of(x), of(y)
	same(t, field.Add(a, b), new(big.Int).Add(x, y), "Add", x, y)
	same(t, field.Sub(a, b), new(big.Int).Sub(x, y), "Sub", x, y)
	same(t, field.Mul(a, b), new(big.Int).Mul(x, y), "Mul", x, y)
}

func TestEdges(t *testing.T) {
	l := edges()
	for _, x := range l {
		same(t, field.Neg(of(x)), new(big.Int).Neg(x), "Neg", x)
		for _, y := range l {
			reckon(t, x, y)
		}
	}
}

// Each number of the texts, taken as it is, that of p and above too.
func TestWhatOfGives(t *testing.T) {
	other := new(big.Int).Sub(shift(255, -1), shift(101, 7))
	for _, b := range texts() {
		a, n := field.Of(b), whole(b)
		n.SetBit(n, 255, 0)
		same(t, field.Neg(a), new(big.Int).Neg(n), "Neg", n)
		same(t, field.Add(a, of(other)), new(big.Int).Add(n, other), "Add", n, other)
		same(t, field.Sub(a, of(other)), new(big.Int).Sub(n, other), "Sub", n, other)
		same(t, field.Sub(of(other), a), new(big.Int).Sub(other, n), "Sub", other, n)
		same(t, field.Mul(a, of(other)), new(big.Int).Mul(n, other), "Mul", n, other)
		same(t, field.Mul(a, a), new(big.Int).Mul(n, n), "Mul", n, n)
	}
}

func TestKnownSums(t *testing.T) {
	for _, c := range []struct {
		got  field.Fe
		want *big.Int
		what string
	}{
		{field.Add(small(-1), small(1)), big.NewInt(0), "p - 1 and 1"},
		{field.Add(small(-1), small(2)), big.NewInt(1), "p - 1 and 2"},
		{field.Add(small(-1), small(-1)), prime(-2), "p - 1 and p - 1"},
		{field.Add(small(-2), small(1)), prime(-1), "p - 2 and 1"},
		{field.Sub(small(0), small(1)), prime(-1), "0 less 1"},
		{field.Sub(small(1), small(2)), prime(-1), "1 less 2"},
		{field.Sub(small(0), small(-1)), big.NewInt(1), "0 less p - 1"},
		{field.Sub(small(-1), small(-1)), big.NewInt(0), "p - 1 less p - 1"},
		{field.Sub(small(-2), small(-1)), prime(-1), "p - 2 less p - 1"},
		{field.Neg(small(0)), big.NewInt(0), "the contrary of 0"},
		{field.Neg(small(1)), prime(-1), "the contrary of 1"},
		{field.Neg(small(-1)), big.NewInt(1), "the contrary of p - 1"},
		{field.Neg(small(-2)), big.NewInt(2), "the contrary of p - 2"},
		{field.Mul(small(-1), small(-1)), big.NewInt(1), "p - 1 times p - 1"},
		{field.Mul(small(-1), small(-2)), big.NewInt(2), "p - 1 times p - 2"},
		{field.Mul(small(-1), small(2)), prime(-2), "p - 1 times 2"},
		{field.Mul(of(shift(254, 0)), small(2)), big.NewInt(19), "2^254 times 2"},
		{field.Mul(of(shift(128, 0)), of(shift(127, 0))), big.NewInt(19), "2^128 times 2^127"},
		{field.Mul(of(shift(254, 0)), of(shift(254, 0))), new(big.Int).Mul(big.NewInt(19), shift(253, 0)), "2^254 times 2^254"},
	} {
		same(t, c.got, c.want, c.what)
	}
}

// Each power of 2 times each other one: each limb meets each one, and what stands beyond 2^255 comes back.
func TestPowersOfTwo(t *testing.T) {
	for i := range uint(255) {
		for j := range uint(255) {
			same(t, field.Mul(of(shift(i, 0)), of(shift(j, 0))), shift(i+j, 0), "Mul", shift(i, 0), shift(j, 0))
		}
	}
}

func TestDrawnNumbers(t *testing.T) {
	d := drawer(4)
	for range 5000 {
		reckon(t, d.number(), d.number())
	}
}

// What long chains leave is as good for a product as a number of bytes.
func TestLongChains(t *testing.T) {
	d := drawer(5)
	starts := append(edges(), d.number())
	for _, start := range starts {
		a, n := of(start), new(big.Int).Set(start)
		for range 200 {
			y := starts[d.below(len(starts))]
			switch d.below(4) {
			case 0:
				a, n = field.Add(a, of(y)), n.Add(n, y)
			case 1:
				a, n = field.Sub(a, of(y)), n.Sub(n, y)
			case 2:
				a, n = field.Sub(of(y), a), n.Sub(y, n)
			default:
				a, n = field.Neg(a), n.Neg(n)
			}
		}
		same(t, a, n, "a chain from", start)
		same(t, field.Mul(a, a), new(big.Int).Mul(n, n), "a square behind a chain from", start)
	}
}

func TestChainsOfOneKind(t *testing.T) {
	for _, step := range []*big.Int{big.NewInt(1), prime(-1), prime(-2), shift(254, 0), shift(255, -20), shift(204, -1)} {
		up, down, turned := of(step), of(step), of(step)
		for k := int64(1); k <= 5000; k++ {
			if k%500 == 0 {
				same(t, up, new(big.Int).Mul(step, big.NewInt(k)), "sums")
				same(t, down, new(big.Int).Mul(step, big.NewInt(2-k)), "differences")
				same(t, field.Mul(up, down), new(big.Int).Mul(new(big.Int).Mul(step, step), big.NewInt(k*(2-k))), "sums times differences")
				same(t, field.Mul(turned, up), new(big.Int).Mul(new(big.Int).Mul(step, step), big.NewInt(-k)), "contraries times sums")
			}
			up, down, turned = field.Add(up, of(step)), field.Sub(down, of(step)), field.Neg(turned)
		}
	}
	twice, n := small(-1), prime(-1)
	for range 2000 {
		twice, n = field.Add(twice, twice), modulo(n.Add(n, n))
	}
	same(t, twice, n, "twice, again and again")
}

// Products of products, long rows of them.
func TestPowers(t *testing.T) {
	d := drawer(6)
	for _, x := range append(edges(), d.number()) {
		a, n := of(x), new(big.Int).Set(x)
		for range 50 {
			a, n = field.Mul(a, of(x)), modulo(n.Mul(n, x))
			a, n = field.Mul(a, a), modulo(n.Mul(n, n))
		}
		same(t, a, n, "a power", x)
	}
}

func TestInv(t *testing.T) {
	half := new(big.Int).Rsh(prime(1), 1)
	for _, c := range []struct{ x, want *big.Int }{
		{big.NewInt(0), big.NewInt(0)}, {big.NewInt(1), big.NewInt(1)}, {big.NewInt(2), half},
		{prime(-1), prime(-1)}, {prime(-2), new(big.Int).Neg(half)}, {half, big.NewInt(2)},
	} {
		same(t, field.Inv(of(c.x)), c.want, "Inv", c.x)
	}
	d := drawer(7)
	l := edges()
	for range 200 {
		l = append(l, d.number())
	}
	for _, x := range l {
		a := of(x)
		if x.Sign() == 0 {
			same(t, field.Mul(field.Inv(a), a), x, "0 times Inv", x)
			continue
		}
		same(t, field.Inv(a), new(big.Int).ModInverse(x, prime(0)), "Inv", x)
		same(t, field.Mul(field.Inv(a), a), big.NewInt(1), "Inv times the number", x)
		same(t, field.Inv(field.Inv(a)), x, "Inv of Inv", x)
	}
	same(t, field.Inv(field.Of(bytesOf(prime(0)))), big.NewInt(0), "Inv of p")
	same(t, field.Inv(field.Sub(small(7), small(7))), big.NewInt(0), "Inv of 7 less 7")
}

// P7.3

// rightRoot asks for a root beside another reckoning.
func rightRoot(t *testing.T, x *big.Int) bool {
	t.Helper()
	r, ok := field.Root(of(x))
	want := new(big.Int).ModSqrt(modulo(x), prime(0))
	if ok != (want != nil) {
		t.Fatalf("Root(%x): %v", x, ok)
	}
	if !ok {
		same(t, r, big.NewInt(0), "Root without one", x)
		return false
	}
	if want.Bit(0) != 0 {
		want.Sub(prime(0), want)
	}
	same(t, r, want, "Root", x)
	same(t, field.Mul(r, r), x, "the root's square", x)
	return true
}

func TestKnownRoots(t *testing.T) {
	for _, c := range []struct {
		x, want *big.Int
		ok      bool
	}{
		{big.NewInt(0), big.NewInt(0), true}, {big.NewInt(1), prime(-1), true}, {big.NewInt(4), big.NewInt(2), true},
		{big.NewInt(9), prime(-3), true}, {big.NewInt(16), big.NewInt(4), true}, {big.NewInt(36), big.NewInt(6), true},
		{big.NewInt(2), big.NewInt(0), false}, {prime(-2), big.NewInt(0), false}, {big.NewInt(8), big.NewInt(0), false},
		{prime(0), big.NewInt(0), true}, {prime(4), big.NewInt(2), true}, {prime(2), big.NewInt(0), false},
	} {
		r, ok := field.Root(field.Of(bytesOf(c.x)))
		if ok != c.ok {
			t.Errorf("Root(%x): %v, want %v", c.x, ok, c.ok)
		}
		same(t, r, c.want, "Root", c.x)
	}
	if r, ok := field.Root(field.Fe{}); !ok || r != (field.Fe{}) {
		t.Errorf("Root of the zero value: %v, %v", r, ok)
	}
}

func TestRootOfMinusOne(t *testing.T) {
	r, ok := field.Root(small(-1))
	if !ok || field.Bytes(r)[0]&1 != 0 {
		t.Fatalf("Root(-1): %x, %v", field.Bytes(r), ok)
	}
	same(t, field.Mul(r, r), prime(-1), "its square")
	rightRoot(t, prime(-1))
}

func TestRoots(t *testing.T) {
	d := drawer(8)
	with, without := 0, 0
	for n := int64(-300); n <= 300; n++ {
		rightRoot(t, modulo(big.NewInt(n)))
	}
	l := edges()
	for range 300 {
		l = append(l, d.number())
	}
	for _, x := range l {
		if rightRoot(t, x) {
			with++
		} else {
			without++
		}
	}
	if with < 100 || without < 100 {
		t.Errorf("%d with a root, %d without one: too few of a kind", with, without)
	}
}

// -1 is a square and 2 is none: so less a square is one, and twice a square is none.
func TestRootsOfSquares(t *testing.T) {
	d := drawer(9)
	for range 200 {
		x := d.number()
		square := modulo(new(big.Int).Mul(x, x))
		if !rightRoot(t, square) {
			t.Fatalf("the square of %x has no root", x)
		}
		if !rightRoot(t, modulo(new(big.Int).Neg(square))) {
			t.Fatalf("less the square of %x has no root", x)
		}
		even := new(big.Int).Set(x)
		if even.Bit(0) != 0 {
			even.Sub(prime(0), even)
		}
		for _, y := range []*big.Int{x, new(big.Int).Sub(prime(0), x)} {
			a := of(y)
			r, ok := field.Root(field.Mul(a, a))
			if !ok {
				t.Fatalf("the square of %x has no root", y)
			}
			same(t, r, even, "the even one", y)
		}
		twice := field.Mul(small(2), of(square))
		if r, ok := field.Root(twice); ok || r != (field.Fe{}) {
			t.Fatalf("twice the square of %x has the root %x, %v", x, field.Bytes(r), ok)
		}
		if r, ok := field.Root(field.Neg(twice)); ok || r != (field.Fe{}) {
			t.Fatalf("less twice the square of %x has the root %x, %v", x, field.Bytes(r), ok)
		}
	}
}

// P7.4

func TestOfOfBytes(t *testing.T) {
	d := drawer(10)
	for _, n := range edges() {
		a := field.Mul(of(n), of(d.number()))
		for _, x := range []field.Fe{of(n), a, field.Neg(a), field.Add(a, a), field.Sub(a, of(n)), field.Inv(a)} {
			if got := field.Of(field.Bytes(x)); got != x {
				t.Fatalf("%x comes back as %x", field.Bytes(x), field.Bytes(got))
			}
		}
	}
}

// laws asks for what follows of three numbers.
func laws(t *testing.T, a, b, c field.Fe) {
	t.Helper()
	for i, two := range [][2]field.Fe{
		{field.Add(a, b), field.Add(b, a)},
		{field.Add(a, field.Add(b, c)), field.Add(field.Add(a, b), c)},
		{field.Mul(a, b), field.Mul(b, a)},
		{field.Mul(a, field.Mul(b, c)), field.Mul(field.Mul(a, b), c)},
		{field.Mul(a, field.Add(b, c)), field.Add(field.Mul(a, b), field.Mul(a, c))},
		{field.Mul(a, field.Sub(b, c)), field.Sub(field.Mul(a, b), field.Mul(a, c))},
		{field.Sub(a, b), field.Add(a, field.Neg(b))},
		{field.Sub(a, b), field.Neg(field.Sub(b, a))},
		{field.Add(a, field.Neg(a)), field.Fe{}},
		{field.Sub(a, a), field.Fe{}},
		{field.Neg(field.Neg(a)), a},
		{field.Neg(a), field.Mul(a, small(-1))},
		{field.Sub(field.Add(a, b), b), a},
		{field.Add(field.Sub(a, b), b), a},
		{field.Mul(field.Neg(a), b), field.Neg(field.Mul(a, b))},
		{field.Mul(a, small(1)), a},
		{field.Add(a, a), field.Mul(a, small(2))},
	} {
		if two[0] != two[1] || field.Bytes(two[0]) != field.Bytes(two[1]) {
			t.Fatalf("law %d of %x, %x, %x: %x and %x", i, field.Bytes(a), field.Bytes(b), field.Bytes(c), field.Bytes(two[0]), field.Bytes(two[1]))
		}
	}
}

func TestLaws(t *testing.T) {
	d := drawer(11)
	l := edges()
	for _, x := range l {
		for _, y := range l {
			laws(t, of(x), of(y), of(l[d.below(len(l))]))
		}
	}
	for range 1000 {
		laws(t, of(d.number()), of(d.number()), of(d.number()))
	}
}

func TestInvOfProducts(t *testing.T) {
	d := drawer(12)
	for range 100 {
		a, b := of(d.number()), of(d.number())
		if field.Inv(field.Mul(a, b)) != field.Mul(field.Inv(a), field.Inv(b)) || field.Inv(field.Neg(a)) != field.Neg(field.Inv(a)) {
			t.Fatalf("Inv of a product of %x and %x", field.Bytes(a), field.Bytes(b))
		}
	}
}

// What is handed in (rules 5 and 6)

func TestArgumentsStayAsTheyAre(t *testing.T) {
	d := drawer(13)
	for _, n := range edges() {
		text := bytesOf(n)
		a, b := field.Of(text), of(d.number())
		x, y := a, b
		first := []field.Fe{field.Add(a, b), field.Sub(a, b), field.Mul(a, b), field.Neg(a), field.Inv(a)}
		root, ok := field.Root(a)
		if a != x || b != y || field.Bytes(a) != text || text != bytesOf(n) {
			t.Fatalf("%x or %x is changed", field.Bytes(x), field.Bytes(y))
		}
		again := []field.Fe{field.Add(a, b), field.Sub(a, b), field.Mul(a, b), field.Neg(a), field.Inv(a)}
		other, fine := field.Root(a)
		if !slices.Equal(first, again) || root != other || ok != fine {
			t.Fatalf("done twice, it isn't the same of %x and %x", text, field.Bytes(b))
		}
	}
}

func TestAnswersAreTheCallers(t *testing.T) {
	a := small(77)
	b := field.Bytes(a)
	clear(b[:])
	text := bytesOf(big.NewInt(77))
	made := field.Of(text)
	clear(text[:])
	if field.Bytes(a) != ([32]byte{77}) || made != a {
		t.Error("what is changed behind a call changes a number")
	}
}
