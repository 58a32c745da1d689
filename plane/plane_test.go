package plane_test

import (
	"math"
	"slices"
	"testing"

	"missive/api"
	"missive/plane"
)

const edge = 1 << 20

var minusZero = math.Copysign(0, -1)

// pair is a spot by its two parts as ints, so that the tests reckon without complex numbers.
type pair struct{ right, up int }

func (p pair) point() complex128 { return complex(float64(p.right), float64(p.up)) }

// spiral tells the n-th spot by the squares about 0: the side of the outermost one that is not whole says where n lies.
func spiral(n int) pair {
	ring := 0
	for (2*ring+1)*(2*ring+1) <= n {
		ring++
	}
	if ring == 0 {
		return pair{}
	}
	behind := n - (2*ring-1)*(2*ring-1)
	side, along := behind/(2*ring), behind%(2*ring)+1
	switch side {
	case 0:
		return pair{ring, along - ring}
	case 1:
		return pair{ring - along, ring}
	case 2:
		return pair{-ring, ring - along}
	}
	return pair{along - ring, -ring}
}

// notPoints are numbers that are no points: just beyond the edge, not whole, without end, no numbers.
func notPoints() []complex128 {
	var l []complex128
	for _, x := range []float64{
		edge + 1, -edge - 1, edge + 0.5, -edge - 0.5, math.Nextafter(edge, 2*edge), 1 << 21, 1 << 62, math.MaxFloat64, -math.MaxFloat64,
		0.5, -0.5, 1.25, math.Nextafter(1, 2), math.Nextafter(edge, 0), math.SmallestNonzeroFloat64, -math.SmallestNonzeroFloat64,
		math.Inf(1), math.Inf(-1), math.NaN(),
	} {
		l = append(l, complex(x, 0), complex(0, x), complex(x, x), complex(-7, x))
	}
	return l
}

// points are some that may be: the edge's, the first spots, some beyond the spiral.
func points() []complex128 {
	l := []complex128{
		edge, -edge, complex(0, edge), complex(0, -edge), complex(edge, edge), complex(-edge, -edge), complex(edge, -edge), complex(-edge, edge),
		complex(edge-1, 1-edge), complex(edge-1, edge), 40 - 3i, -700 + 12i, 12345 + 54321i, -99 - 1000i,
		complex(minusZero, minusZero), complex(minusZero, 3), complex(-3, minusZero),
	}
	for n := range 30 {
		l = append(l, spiral(n).point())
	}
	return l
}

func hasMinusZero(z complex128) bool {
	return real(z) == 0 && math.Signbit(real(z)) || imag(z) == 0 && math.Signbit(imag(z))
}

// P1.1

func TestSpotBeginsAsNamed(t *testing.T) {
	named := []complex128{
		0, 1, 1 + 1i, 1i, -1 + 1i, -1, -1 - 1i, -1i, 1 - 1i, 2 - 1i,
		2, 2 + 1i, 2 + 2i, 1 + 2i, 2i, -1 + 2i, -2 + 2i, -2 + 1i, -2, -2 - 1i, -2 - 2i, -1 - 2i, -2i, 1 - 2i, 2 - 2i, 3 - 2i,
	}
	for n, want := range named {
		if z, ok := plane.Spot(n); !ok || z != want {
			t.Errorf("Spot(%d): %v %t, want %v", n, z, ok, want)
		}
	}
}

func TestSpotAll(t *testing.T) {
	for n := range api.MaxSpot + 1 {
		z, ok := plane.Spot(n)
		if !ok || z != spiral(n).point() {
			t.Fatalf("Spot(%d): %v %t, want %v", n, z, ok, spiral(n))
		}
		if hasMinusZero(z) {
			t.Fatalf("Spot(%d) has a part -0", n)
		}
	}
}

func TestSpotLastAndBeyond(t *testing.T) {
	if z, ok := plane.Spot(4095); !ok || z != -31+32i {
		t.Errorf("Spot(4095): %v %t", z, ok)
	}
	for _, n := range []int{-1, -2, 4096, 4097, -4095, 1 << 32, 1<<32 + 1, math.MinInt, math.MinInt + 1, math.MaxInt} {
		if z, ok := plane.Spot(n); ok || z != 0 || hasMinusZero(z) {
			t.Errorf("Spot(%d): %v %t", n, z, ok)
		}
	}
}

func TestPlaceOfTheGrid(t *testing.T) {
	numbers := map[pair]int{}
	for n := range api.MaxSpot + 1 {
		numbers[spiral(n)] = n
	}
	for right := -36; right <= 36; right++ {
		for up := -36; up <= 36; up++ {
			p := pair{right, up}
			want, there := numbers[p]
			if n, ok := plane.Place(p.point()); ok != there || n != want {
				t.Fatalf("Place(%v): %d %t, want %d %t", p, n, ok, want, there)
			}
		}
	}
}

func TestPlaceOfNoSpot(t *testing.T) {
	for _, z := range append(notPoints(), 100, spiral(4096).point(), spiral(4097).point(), 33, -32i-32, edge, complex(0, -edge)) {
		if n, ok := plane.Place(z); ok || n != 0 {
			t.Errorf("Place(%v): %d %t", z, n, ok)
		}
	}
}

func TestPlaceTakesMinusZeroForZero(t *testing.T) {
	for z, want := range map[complex128]int{
		complex(minusZero, minusZero): 0,
		complex(1, minusZero):         1,
		complex(minusZero, 1):         3,
		complex(-1, minusZero):        5,
		complex(minusZero, -1):        7,
	} {
		if n, ok := plane.Place(z); !ok || n != want {
			t.Errorf("Place(%v): %d %t, want %d", z, n, ok, want)
		}
	}
}

// P1.2

func TestTurnByQuarters(t *testing.T) {
	for _, z := range points() {
		a, b := real(z), imag(z)
		turned := []complex128{complex(a, b), complex(-b, a), complex(-a, -b), complex(b, -a)}
		for q := -9; q <= 9; q++ {
			want := turned[((q%4)+4)%4]
			if got, ok := plane.Turn(z, q); !ok || got != want || hasMinusZero(got) {
				t.Errorf("Turn(%v, %d): %v %t, want %v", z, q, got, ok, want)
			}
		}
	}
}

func TestTurnByTheGreatestAndTheLeast(t *testing.T) {
	for q, want := range map[int]complex128{
		math.MaxInt:     1 - 2i,
		math.MaxInt - 1: -2 - 1i,
		math.MaxInt - 2: -1 + 2i,
		math.MaxInt - 3: 2 + 1i,
		math.MinInt:     2 + 1i,
		math.MinInt + 1: -1 + 2i,
		math.MinInt + 2: -2 - 1i,
		math.MinInt + 3: 1 - 2i,
	} {
		if z, ok := plane.Turn(2+1i, q); !ok || z != want {
			t.Errorf("Turn(2+i, %d): %v %t, want %v", q, z, ok, want)
		}
	}
}

func TestTurnOfNoPoint(t *testing.T) {
	for _, z := range notPoints() {
		for _, q := range []int{0, 1, 2, 3, 4, -1, math.MaxInt, math.MinInt} {
			if got, ok := plane.Turn(z, q); ok || got != 0 || hasMinusZero(got) {
				t.Errorf("Turn(%v, %d): %v %t", z, q, got, ok)
			}
		}
	}
}

// P1.3

func TestFar(t *testing.T) {
	for _, c := range []struct {
		a, b complex128
		want int
	}{
		{1 + 1i, -2 + 5i, 4},
		{0, 0, 0},
		{0, 1, 1},
		{0, -1i, 1},
		{0, 3 + 4i, 4},
		{0, -4 - 3i, 4},
		{5 + 2i, -2 + 5i, 7},
		{0, edge, edge},
		{-edge, edge, 2 * edge},
		{complex(-edge, 3), complex(edge, 2), 2 * edge},
		{complex(1, -edge), complex(2, edge), 2 * edge},
		{complex(edge, edge), complex(-edge, -edge), 2 * edge},
		{complex(edge, edge), complex(edge-1, edge), 1},
		{complex(minusZero, minusZero), 0, 0},
		{complex(minusZero, 2), complex(0, -2), 4},
	} {
		if d, ok := plane.Far(c.a, c.b); !ok || d != c.want {
			t.Errorf("Far(%v, %v): %d %t, want %d", c.a, c.b, d, ok, c.want)
		}
	}
}

func TestFarOfNoPoint(t *testing.T) {
	for _, z := range notPoints() {
		for _, other := range []complex128{0, z, 1 - 1i, edge} {
			if d, ok := plane.Far(z, other); ok || d != 0 {
				t.Errorf("Far(%v, %v): %d %t", z, other, d, ok)
			}
			if d, ok := plane.Far(other, z); ok || d != 0 {
				t.Errorf("Far(%v, %v): %d %t", other, z, d, ok)
			}
		}
	}
}

// P1.4

func TestNear(t *testing.T) {
	for _, c := range []struct {
		name string
		z    complex128
		l    []complex128
		k    int
		want []int
	}{
		{"the chapter's", 0, []complex128{3, 1, 1i, 0.5}, 2, []int{1, 2}},
		{"none of none", 0, nil, 3, nil},
		{"one of none", 0, []complex128{}, 1, nil},
		{"fewer than asked", 0, []complex128{3, 1, 1i, 0.5}, 4, []int{1, 2, 0}},
		{"as many as can be asked", 0, []complex128{3, 1, 1i, 0.5}, math.MaxInt, []int{1, 2, 0}},
		{"as near, in their order", 2 + 2i, []complex128{1 + 1i, 9, 3 + 3i, 2 + 1i, 1 + 3i, 3 + 2i}, 5, []int{0, 2, 3, 4, 5}},
		{"as near, cut off", 2 + 2i, []complex128{1 + 1i, 9, 3 + 3i, 2 + 1i, 1 + 3i, 3 + 2i}, 2, []int{0, 2}},
		{"the same point more than once", 1, []complex128{5, 1, 5, 1, 1}, 4, []int{1, 3, 4, 0}},
		{"by Far, not by the straight line", 0, []complex128{4, 3 + 3i, 3}, 3, []int{1, 2, 0}},
		{"-0 is 0", complex(minusZero, minusZero), []complex128{1, complex(minusZero, 0)}, 1, []int{1}},
		{"from edge to edge", -edge, []complex128{edge, edge - 1, -edge}, 3, []int{2, 1, 0}},
		{"beyond the edge", -edge, []complex128{edge + 1, edge, -edge - 1, 0}, 4, []int{3, 1}},
		{"none that may be", 0, notPoints(), 5, nil},
		{"none asked", 0, []complex128{0, 1}, 0, nil},
		{"fewer than none", 0, []complex128{0, 1}, -1, nil},
		{"the least int", 0, []complex128{0, 1}, math.MinInt, nil},
	} {
		if got := plane.Near(c.z, c.l, c.k); !slices.Equal(got, c.want) {
			t.Errorf("%s: Near(%v, %v, %d): %v, want %v", c.name, c.z, c.l, c.k, got, c.want)
		}
	}
}

func TestNearOfNoPoint(t *testing.T) {
	for _, z := range notPoints() {
		if got := plane.Near(z, []complex128{z, 0, 1}, 3); len(got) != 0 {
			t.Errorf("Near(%v): %v", z, got)
		}
	}
}

// nearest picks one place after the other, each time the first of those that are nearest.
func nearest(z complex128, l []complex128, k int) []int {
	var got []int
	for range min(k, len(l)) {
		best, least := -1, 0
		for i, p := range l {
			d, ok := plane.Far(z, p)
			if ok && !slices.Contains(got, i) && (best < 0 || d < least) {
				best, least = i, d
			}
		}
		if best < 0 {
			break
		}
		got = append(got, best)
	}
	return got
}

func TestNearOfManyAsNear(t *testing.T) {
	var l []complex128
	for i := range 120 {
		l = append(l, spiral(i*37%121).point())
		if i%5 == 0 {
			l = append(l, complex(0.5, float64(i)))
		}
	}
	for _, k := range []int{1, 2, 9, 60, 119, 120, 121, 200} {
		for _, z := range []complex128{0, 1 - 2i, -5, 40i} {
			if got, want := plane.Near(z, l, k), nearest(z, l, k); !slices.Equal(got, want) {
				t.Errorf("Near(%v, .., %d): %v, want %v", z, k, got, want)
			}
		}
	}
}

// Rules 5 and 6: what is handed in stays as it is, an answer is new, the same asked twice is answered the same.
func TestNearSharesNothing(t *testing.T) {
	room := []complex128{3, 1, 1i, 0.5, 77, 78}
	whole := slices.Clone(room)
	l := room[:4]
	first := plane.Near(0, l, 3)
	if !slices.Equal(room, whole) {
		t.Errorf("the list was changed: %v", room)
	}
	first = first[:cap(first)]
	for i := range first {
		first[i] = -9
	}
	if again := plane.Near(0, l, 3); !slices.Equal(again, []int{1, 2, 0}) || !slices.Equal(room, whole) {
		t.Errorf("asked again: %v, %v", again, room)
	}
}

// P1.5

func TestPlaceTellsASpotsNumberBack(t *testing.T) {
	for n := range api.MaxSpot + 1 {
		z, _ := plane.Spot(n)
		if k, ok := plane.Place(z); !ok || k != n {
			t.Fatalf("Place(Spot(%d)): %d %t", n, k, ok)
		}
	}
}

func TestSpotsAreAStepApartAndNoTwoTheSame(t *testing.T) {
	seen := map[complex128]int{}
	last := complex128(0)
	for n := range api.MaxSpot + 1 {
		z, _ := plane.Spot(n)
		if k, is := seen[z]; is {
			t.Fatalf("the spots %d and %d are the same: %v", k, n, z)
		}
		seen[z] = n
		step := z - last
		if n > 0 && math.Abs(real(step))+math.Abs(imag(step)) != 1 {
			t.Fatalf("from the spot %d to the spot %d: %v", n-1, n, step)
		}
		last = z
	}
}

// P1.6

func TestFourQuartersOrNoneChangeNothing(t *testing.T) {
	for _, z := range points() {
		for _, q := range []int{0, 4, -4, 400, -400} {
			if got, ok := plane.Turn(z, q); !ok || got != z {
				t.Errorf("Turn(%v, %d): %v %t", z, q, got, ok)
			}
		}
		for _, quarter := range []int{1, -1} {
			round := z
			for range 4 {
				round, _ = plane.Turn(round, quarter)
			}
			if round != z {
				t.Errorf("%v turned four times by %d: %v", z, quarter, round)
			}
		}
	}
}

func TestTurningChangesNoDistance(t *testing.T) {
	for _, a := range points() {
		for _, b := range points() {
			want, _ := plane.Far(a, b)
			for q := -4; q <= 4; q++ {
				c, _ := plane.Turn(a, q)
				d, _ := plane.Turn(b, q)
				if got, ok := plane.Far(c, d); !ok || got != want {
					t.Fatalf("%v and %v, turned by %d: %d %t, want %d", a, b, q, got, ok, want)
				}
			}
		}
	}
}

func TestFarIsADistance(t *testing.T) {
	l := points()
	for _, a := range l {
		for _, b := range l {
			there, _ := plane.Far(a, b)
			if back, ok := plane.Far(b, a); !ok || back != there {
				t.Fatalf("Far(%v, %v): %d, the other way %d %t", a, b, there, back, ok)
			}
			if (there == 0) != (a == b) || there < 0 {
				t.Fatalf("Far(%v, %v): %d", a, b, there)
			}
			for _, c := range l {
				to, _ := plane.Far(a, c)
				on, _ := plane.Far(c, b)
				if there > to+on {
					t.Fatalf("from %v to %v: %d, by way of %v: %d", a, b, there, c, to+on)
				}
			}
		}
	}
}
