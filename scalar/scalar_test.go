package scalar_test

import (
	"math/big"
	"slices"
	"testing"

	"missive/scalar"
)

// drawer makes bytes that look like thrown ones, the same each time.
type drawer uint64

func (d *drawer) text(n int) []byte {
	b := make([]byte, n)
	for i := range b {
		*d = *d*6364136223846793005 + 1442695040888963407
		b[i] = byte(*d >> 56)
	}
	return b
}

func (d *drawer) bytes() [32]byte { return [32]byte(d.text(32)) }

// shift is 2^n and more.
func shift(n uint, more int64) *big.Int {
	x := new(big.Int).Lsh(big.NewInt(1), n)
	return x.Add(x, big.NewInt(more))
}

// order is L and more.
func order(more int64) *big.Int {
	l, _ := new(big.Int).SetString("27742317777372353535851937790883648493", 10)
	return l.Add(l, shift(252, more))
}

// modulo is the number from 0 to L - 1.
func modulo(n *big.Int) *big.Int { return new(big.Int).Mod(n, order(0)) }

// whole is the number of the bytes, the least first.
func whole(b []byte) *big.Int {
	b = slices.Clone(b)
	slices.Reverse(b)
	return new(big.Int).SetBytes(b)
}

// textOf are the number's bytes, the least first, with zeros behind up to size.
func textOf(n *big.Int, size int) []byte {
	b := n.FillBytes(make([]byte, size))
	slices.Reverse(b)
	return b
}

// bytesOf are the 32 bytes of a number that has no more, the least first.
func bytesOf(n *big.Int) [32]byte { return [32]byte(textOf(n, 32)) }

// small are the 32 bytes of n modulo L.
func small(n int64) [32]byte { return bytesOf(modulo(big.NewInt(n))) }

// edges are numbers of at most size bytes: about 0, L and its multiples, and the powers of 2.
func edges(size int) (l []*big.Int) {
	add := func(n *big.Int) {
		if n.Sign() >= 0 && n.BitLen() <= 8*size {
			l = append(l, n)
		}
	}
	most := new(big.Int).Div(shift(uint(8*size), -1), order(0))
	times := []*big.Int{most, new(big.Int).Sub(most, big.NewInt(1)), new(big.Int).Rsh(most, 1)}
	for k := range int64(18) {
		times = append(times, big.NewInt(k))
	}
	for n := uint(1); n < 260; n += 7 {
		times = append(times, shift(n, 0), shift(n, -1))
	}
	for _, k := range times {
		for more := int64(-2); more <= 2; more++ {
			n := new(big.Int).Mul(k, order(0))
			add(n.Add(n, big.NewInt(more)))
		}
	}
	for n := range uint(8*size + 1) {
		for more := int64(-1); more <= 1; more++ {
			add(shift(n, more))
		}
	}
	return l
}

// few are numbers of 32 bytes for each place of MulAdd, and some that are drawn.
func few() (l [][32]byte) {
	for _, n := range []*big.Int{
		big.NewInt(0), big.NewInt(1), big.NewInt(2), big.NewInt(255), big.NewInt(256),
		order(-2), order(-1), order(0), order(1), order(2),
		new(big.Int).Rsh(order(0), 1), new(big.Int).Mul(order(0), big.NewInt(2)), new(big.Int).Mul(order(0), big.NewInt(15)),
		shift(64, -1), shift(64, 0), shift(128, -1), shift(128, 0), shift(192, 0), shift(252, -1), shift(252, 0), shift(253, 0),
		shift(255, -1), shift(255, 0), shift(256, -2), shift(256, -1),
	} {
		l = append(l, bytesOf(n))
	}
	d := drawer(100)
	for range 5 {
		l = append(l, d.bytes())
	}
	return l
}

// reduced asks for the number of the bytes modulo L beside another reckoning.
func reduced(t *testing.T, b []byte) {
	t.Helper()
	got, ok := scalar.Reduce(b)
	if want := bytesOf(modulo(whole(b))); !ok || got != want {
		t.Fatalf("Reduce(%x): %x, %v, want %x", b, got, ok, want)
	}
}

// reckoned asks for a times b and c beside another reckoning.
func reckoned(t *testing.T, a, b, c [32]byte) {
	t.Helper()
	n := new(big.Int).Mul(whole(a[:]), whole(b[:]))
	n.Add(n, whole(c[:]))
	if got, want := scalar.MulAdd(a, b, c), bytesOf(modulo(n)); got != want {
		t.Fatalf("MulAdd(%x, %x, %x): %x, want %x", a, b, c, got, want)
	}
}

// P8.1

func TestReduceKnownNumbers(t *testing.T) {
	full := slices.Repeat([]byte{255}, 64)
	for _, c := range []struct {
		b    []byte
		want *big.Int
	}{
		{nil, big.NewInt(0)}, {[]byte{}, big.NewInt(0)}, {[]byte{0}, big.NewInt(0)}, {[]byte{1}, big.NewInt(1)},
		{[]byte{255}, big.NewInt(255)}, {[]byte{0, 1}, big.NewInt(256)}, {make([]byte, 64), big.NewInt(0)},
		{textOf(order(-1), 32), order(-1)}, {textOf(order(0), 32), big.NewInt(0)}, {textOf(order(1), 32), big.NewInt(1)},
		{textOf(new(big.Int).Add(order(-1), order(0)), 32), order(-1)},
		{textOf(new(big.Int).Add(order(0), order(0)), 32), big.NewInt(0)},
		{textOf(new(big.Int).Mul(order(0), order(0)), 64), big.NewInt(0)},
		{textOf(new(big.Int).Mul(order(-1), order(-1)), 64), big.NewInt(1)},
		{full, modulo(shift(512, -1))},
	} {
		if got, ok := scalar.Reduce(c.b); !ok || got != bytesOf(c.want) {
			t.Errorf("Reduce(%x): %x, %v, want %x", c.b, got, ok, c.want)
		}
	}
}

// The bytes of L, as RFC 8032 has them, written out here once more.
func TestOrderByItsBytes(t *testing.T) {
	l := []byte{
		0xed, 0xd3, 0xf5, 0x5c, 0x1a, 0x63, 0x12, 0x58, 0xd6, 0x9c, 0xf7, 0xa2, 0xde, 0xf9, 0xde, 0x14,
		0, 0, 0, 0, 0, 0, 0, 0, 0, 0, 0, 0, 0, 0, 0, 0x10,
	}
	for more := range byte(4) {
		l[0] = 0xed + more
		if got, ok := scalar.Reduce(l); !ok || got != ([32]byte{more}) {
			t.Errorf("L and %d: %x, %v", more, got, ok)
		}
	}
	l[0] = 0xec
	if got, ok := scalar.Reduce(l); !ok || !slices.Equal(got[:], l) {
		t.Errorf("L - 1: %x, %v", got, ok)
	}
}

func TestReduceEdges(t *testing.T) {
	for _, n := range edges(64) {
		least := (n.BitLen() + 7) / 8
		for _, size := range []int{least, least + 1, 31, 32, 33, 63, 64} {
			if least <= size && size <= 64 {
				reduced(t, textOf(n, size))
			}
		}
	}
}

func TestReduceEachLength(t *testing.T) {
	d := drawer(1)
	for size := range 65 {
		for _, x := range []byte{0, 1, 127, 128, 255} {
			reduced(t, slices.Repeat([]byte{x}, size))
		}
		for range 50 {
			reduced(t, d.text(size))
		}
	}
}

func TestReduceEachBitAndEachByte(t *testing.T) {
	d := drawer(2)
	base := d.text(64)
	for at := range 64 {
		for bit := range 8 {
			b := make([]byte, 64)
			b[at] = 1 << bit
			reduced(t, b)
			reduced(t, b[:at+1])
		}
		for x := range 256 {
			b := slices.Clone(base)
			b[at] = byte(x)
			reduced(t, b)
		}
	}
}

func TestZerosBehindChangeNothing(t *testing.T) {
	d := drawer(3)
	for _, b := range [][]byte{nil, {7}, textOf(order(0), 32), textOf(order(-1), 32), textOf(shift(256, -1), 32), d.text(20), d.text(40)} {
		want, _ := scalar.Reduce(b)
		for size := len(b); size <= 64; size++ {
			longer := append(slices.Clone(b), make([]byte, size-len(b))...)
			if got, ok := scalar.Reduce(longer); !ok || got != want {
				t.Fatalf("Reduce(%x): %x, %v, want %x", longer, got, ok, want)
			}
		}
	}
}

func TestMoreThan64BytesAreRefused(t *testing.T) {
	for _, size := range []int{65, 66, 67, 96, 127, 128, 129, 255, 256, 257, 320, 511, 512, 4096, 65536 + 32, 1 << 20} {
		for _, x := range []byte{0, 1, 255} {
			// The last one is a number that 64 bytes, or 32, would have room for.
			for _, b := range [][]byte{slices.Repeat([]byte{x}, size), append([]byte{x}, make([]byte, size-1)...)} {
				if got, ok := scalar.Reduce(b); ok || got != ([32]byte{}) {
					t.Errorf("Reduce of %d bytes from %d on: %x, %v", size, x, got, ok)
				}
			}
		}
	}
}

// P8.2

func TestMulAddKnownNumbers(t *testing.T) {
	for _, c := range []struct{ a, b, c, want int64 }{
		{0, 0, 0, 0}, {2, 3, 4, 10}, {1, 1, 0, 1}, {0, 5, 7, 7}, {5, 0, 7, 7}, {16, 16, 0, 256}, {255, 255, 255, 65280},
		{-1, -1, 0, 1}, {-1, 1, 0, -1}, {-1, 1, 1, 0}, {-1, -1, -1, 0}, {-1, 2, 1, -1}, {-2, -3, -6, 0}, {1, -1, -1, -2}, {0, 0, -1, -1},
		{-1000003, 1000033, 5, 5 - 1000003*1000033},
	} {
		if got := scalar.MulAdd(small(c.a), small(c.b), small(c.c)); got != small(c.want) {
			t.Errorf("MulAdd(%d, %d, %d): %x, want %x", c.a, c.b, c.c, got, small(c.want))
		}
	}
	for _, c := range []struct{ a, b, c, want *big.Int }{
		{order(0), order(0), order(0), big.NewInt(0)},
		{order(1), order(2), order(3), big.NewInt(5)},
		{big.NewInt(0), big.NewInt(0), order(0), big.NewInt(0)},
		{shift(126, 0), shift(126, 0), big.NewInt(0), shift(252, 0)},
		{shift(126, 0), shift(126, 0), new(big.Int).Sub(order(0), shift(252, 0)), big.NewInt(0)},
		{shift(251, 0), big.NewInt(2), big.NewInt(0), shift(252, 0)},
	} {
		if got := scalar.MulAdd(bytesOf(c.a), bytesOf(c.b), bytesOf(c.c)); got != bytesOf(c.want) {
			t.Errorf("MulAdd(%x, %x, %x): %x, want %x", c.a, c.b, c.c, got, c.want)
		}
	}
}

func TestMulAddInEachPlace(t *testing.T) {
	l := few()
	for _, a := range l {
		for _, b := range l {
			for _, c := range l {
				reckoned(t, a, b, c)
			}
		}
	}
}

// Each number of the edges in each place alone, beside drawn ones.
func TestMulAddEdges(t *testing.T) {
	d := drawer(4)
	for _, n := range edges(32) {
		x := bytesOf(n)
		reckoned(t, x, d.bytes(), d.bytes())
		reckoned(t, d.bytes(), x, d.bytes())
		reckoned(t, d.bytes(), d.bytes(), x)
		reckoned(t, x, x, x)
	}
}

// Each power of 2 times each other one: each bit meets each one.
func TestMulAddPowersOfTwo(t *testing.T) {
	for i := range uint(256) {
		for j := range i + 1 {
			reckoned(t, bytesOf(shift(i, 0)), bytesOf(shift(j, 0)), [32]byte{})
		}
	}
}

func TestMulAddDrawnNumbers(t *testing.T) {
	d := drawer(5)
	for range 5000 {
		reckoned(t, d.bytes(), d.bytes(), d.bytes())
	}
}

// What an answer is, is as good for a next call as other bytes.
func TestMulAddChains(t *testing.T) {
	d := drawer(6)
	got, n := small(1), big.NewInt(1)
	for range 2000 {
		b, c := d.bytes(), d.bytes()
		got = scalar.MulAdd(got, b, c)
		n = n.Mul(n, whole(b[:]))
		n = modulo(n.Add(n, whole(c[:])))
	}
	if got != bytesOf(n) {
		t.Errorf("a chain: %x, want %x", got, n)
	}
}

// P8.3

// rightly asks whether the bytes are told to be below L as they are.
func rightly(t *testing.T, b [32]byte) {
	t.Helper()
	if got, want := scalar.Right(b), whole(b[:]).Cmp(order(0)) < 0; got != want {
		t.Fatalf("Right(%x): %v", b, got)
	}
}

func TestRightKnownNumbers(t *testing.T) {
	for _, c := range []struct {
		n    *big.Int
		want bool
	}{
		{big.NewInt(0), true}, {big.NewInt(1), true}, {shift(252, -1), true}, {shift(252, 0), true},
		{order(-2), true}, {order(-1), true}, {order(0), false}, {order(1), false}, {order(2), false},
		{new(big.Int).Mul(order(0), big.NewInt(2)), false}, {new(big.Int).Mul(order(0), big.NewInt(15)), false},
		{shift(253, -1), false}, {shift(253, 0), false}, {shift(255, 0), false}, {shift(256, -1), false},
	} {
		if got := scalar.Right(bytesOf(c.n)); got != c.want {
			t.Errorf("Right(%x): %v", c.n, got)
		}
	}
}

func TestRightOfL(t *testing.T) {
	base := bytesOf(order(0))
	for at := range base {
		for x := range 256 {
			b := base
			b[at] = byte(x)
			if got, want := scalar.Right(b), byte(x) < base[at]; got != want {
				t.Fatalf("L with the byte %d in place %d: %v", x, at, got)
			}
		}
	}
}

// Two bytes unlike those of L, one more and one less: the one further behind settles it.
func TestTheGreaterByteSettlesIt(t *testing.T) {
	base := bytesOf(order(0))
	for low := range base {
		for high := low + 1; high < len(base); high++ {
			if base[low] < 255 && base[high] > 0 {
				b := base
				b[low]++
				b[high]--
				if !scalar.Right(b) {
					t.Fatalf("Right(%x): false", b)
				}
			}
			if base[low] > 0 && base[high] < 255 {
				b := base
				b[low]--
				b[high]++
				if scalar.Right(b) {
					t.Fatalf("Right(%x): true", b)
				}
			}
		}
	}
}

func TestRightEdgesAndDrawnNumbers(t *testing.T) {
	for _, n := range edges(32) {
		rightly(t, bytesOf(n))
	}
	d := drawer(7)
	for range 5000 {
		b := d.bytes()
		rightly(t, b)
		// Most drawn numbers are above L: those with a small last byte are on both sides.
		b[31] = b[31] % 18
		rightly(t, b)
	}
}

// P8.4

func TestReduceOfANumberBelowL(t *testing.T) {
	d := drawer(8)
	l := [][32]byte{small(0), small(1), small(-1), small(-2), bytesOf(shift(252, 0)), bytesOf(shift(252, -1))}
	for range 1000 {
		l = append(l, bytesOf(modulo(whole(d.text(32)))))
	}
	for _, b := range l {
		if got, ok := scalar.Reduce(b[:]); !ok || got != b || !scalar.Right(b) {
			t.Fatalf("Reduce(%x): %x, %v", b, got, ok)
		}
	}
}

func TestWhatIsAnsweredIsBelowL(t *testing.T) {
	d := drawer(9)
	for range 1000 {
		n, _ := scalar.Reduce(d.text(64))
		for _, x := range [][32]byte{n, scalar.MulAdd(d.bytes(), d.bytes(), d.bytes())} {
			again, ok := scalar.Reduce(x[:])
			if !scalar.Right(x) || !ok || again != x {
				t.Fatalf("%x isn't below L, or is %x modulo L", x, again)
			}
		}
	}
}

// laws asks for what follows of three numbers.
func laws(t *testing.T, a, b, c [32]byte) {
	t.Helper()
	zero, one := [32]byte{}, [32]byte{1}
	reduced, _ := scalar.Reduce(a[:])
	times := func(a, b [32]byte) [32]byte { return scalar.MulAdd(a, b, zero) }
	for i, two := range [][2][32]byte{
		{scalar.MulAdd(a, b, c), scalar.MulAdd(b, a, c)},
		{scalar.MulAdd(a, one, zero), reduced},
		{scalar.MulAdd(one, a, zero), reduced},
		{scalar.MulAdd(zero, b, a), reduced},
		{scalar.MulAdd(b, zero, a), reduced},
		{scalar.MulAdd(a, one, c), scalar.MulAdd(c, one, a)},
		{scalar.MulAdd(reduced, b, c), scalar.MulAdd(a, b, c)},
		{scalar.MulAdd(b, c, reduced), scalar.MulAdd(b, c, a)},
		{times(times(a, b), c), times(a, times(b, c))},
		{times(a, scalar.MulAdd(b, one, c)), scalar.MulAdd(a, b, times(a, c))},
		{scalar.MulAdd(a, small(-1), a), zero},
	} {
		if two[0] != two[1] {
			t.Fatalf("law %d of %x, %x, %x: %x and %x", i, a, b, c, two[0], two[1])
		}
	}
}

func TestLaws(t *testing.T) {
	d := drawer(10)
	for _, a := range few() {
		for _, b := range few() {
			laws(t, a, b, d.bytes())
		}
	}
	for range 500 {
		laws(t, d.bytes(), d.bytes(), d.bytes())
	}
}

// The two halves of 64 bytes make the same number by a product as at once.
func TestHalves(t *testing.T) {
	d := drawer(11)
	shifted, _ := scalar.Reduce(textOf(shift(256, 0), 33))
	for range 500 {
		b := d.text(64)
		want, _ := scalar.Reduce(b)
		if got := scalar.MulAdd([32]byte(b[32:]), shifted, [32]byte(b[:32])); got != want {
			t.Fatalf("the halves of %x: %x, want %x", b, got, want)
		}
	}
}

// What is handed in (rules 5 and 6)

func TestArgumentsStayAsTheyAre(t *testing.T) {
	d := drawer(12)
	for size := range 70 {
		// Spare room stands ahead of what is handed in, and behind it.
		room := d.text(size + 40)
		before := slices.Clone(room)
		first, ok := scalar.Reduce(room[20 : 20+size])
		if !slices.Equal(room, before) {
			t.Fatalf("Reduce of %d bytes has changed them, or the room about them", size)
		}
		again, fine := scalar.Reduce(room[20 : 20+size : 20+size])
		if first != again || ok != fine || ok != (size <= 64) {
			t.Fatalf("Reduce of %d bytes: %x, %v, and then %x, %v", size, first, ok, again, fine)
		}
	}
	for _, a := range few() {
		b, c := d.bytes(), d.bytes()
		x, y, z := a, b, c
		first := scalar.MulAdd(a, b, c)
		right := scalar.Right(a)
		if a != x || b != y || c != z {
			t.Fatalf("MulAdd or Right has changed %x, %x or %x", x, y, z)
		}
		if first != scalar.MulAdd(a, b, c) || right != scalar.Right(a) {
			t.Fatalf("done twice, it isn't the same of %x, %x, %x", a, b, c)
		}
	}
}

func TestAnswersAreTheCallers(t *testing.T) {
	b := []byte{77}
	n, _ := scalar.Reduce(b)
	b[0] = 1
	if n != ([32]byte{77}) {
		t.Error("what is changed behind Reduce changes its answer")
	}
	clear(n[:])
	if again, ok := scalar.Reduce([]byte{77}); !ok || again != ([32]byte{77}) {
		t.Error("what is done with an answer changes the next one")
	}
}
