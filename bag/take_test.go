package bag_test

import (
	"math"
	"slices"
	"testing"

	"missive/api"
	"missive/bag"
)

// P24.2

func TestTakeExamples(t *testing.T) {
	l := due(7, 6, 9)
	for i, left := range [][]uint32{{6, 9}, {7, 9}, {7, 6}} {
		rest, p, ok := take(t, l, i)
		if !ok || !same(p, l[i]) || !slices.Equal(dues(rest), left) {
			t.Errorf("Take of the place %d: %v %v %t", i, rest, p, ok)
		}
	}
	for _, i := range []int{-1, 3} {
		if rest, p, ok := bag.Take(l, i); ok || !same(p, api.Parcel{}) || !sameBag(rest, l) {
			t.Errorf("Take of the place %d: %v %v %t", i, rest, p, ok)
		}
	}
	if rest, p, ok := take(t, due(7), 0); !ok || len(rest) != 0 || p.Due != 7 {
		t.Errorf("Take of the only one: %v %v %t", rest, p, ok)
	}
}

func TestDoubleExamples(t *testing.T) {
	l := due(7, 6, 9)
	for i := range l {
		more, ok := double(t, l, i)
		if !ok || len(more) != 4 || !sameBag(more[:3], l) || !same(more[3], l[i]) {
			t.Errorf("Double of the place %d: %v %t", i, more, ok)
		}
	}
	for _, i := range []int{-1, 3} {
		if more, ok := bag.Double(l, i); ok || !sameBag(more, l) {
			t.Errorf("Double of the place %d: %v %t", i, more, ok)
		}
	}
}

// places are some that there are in no bag, and each that there is in one of so many.
func places(n int) []int {
	l := []int{math.MinInt, -1 << 32, -n - 1, -n, -2, -1, n, n + 1, 2 * n, 256, 1 << 16, 1 << 32, math.MaxInt}
	for i := range n {
		l = append(l, i)
	}
	return l
}

// Bags of up to 70 parcels of any fields, each place and some that aren't there.
func TestTakeAndDoubleAllPlaces(t *testing.T) {
	d := drawer(11)
	for n := range 70 {
		was := d.parcels(n)
		for _, i := range places(n) {
			there := i >= 0 && i < n
			if rest, p, ok := take(t, was, i); ok != there || !ok && (!sameBag(rest, was) || !same(p, api.Parcel{})) {
				t.Fatalf("Take of the place %d of %d: %t", i, n, ok)
			}
			if more, ok := double(t, was, i); ok != (there && n < 64) || !ok && !sameBag(more, was) {
				t.Fatalf("Double of the place %d of %d: %t", i, n, ok)
			}
		}
	}
}

// Of two parcels that are alike, too, the one at the place is taken.
func TestTakeOfSeveralAlike(t *testing.T) {
	one, other := due(5)[0], due(6)[0]
	for code := range 1 << 6 {
		l := []api.Parcel{}
		for i := range 6 {
			l = append(l, []api.Parcel{one, other}[code>>i&1])
		}
		for i := range l {
			take(t, l, i)
			double(t, l, i)
		}
	}
}

// What is doubled is taken twice, and then isn't there.
func TestDoubledIsTakenTwice(t *testing.T) {
	was := due(4, 8)
	l, _ := bag.Double(was, 0)
	l, a, ok := bag.Take(l, 0)
	l, b, again := bag.Take(l, 1)
	if !ok || !again || !same(a, was[0]) || !same(b, was[0]) || !sameBag(l, was[1:]) {
		t.Errorf("%v %t, %v %t, %v", a, ok, b, again, l)
	}
	for n := range 66 {
		more, ok := double(t, l, 0)
		if ok != (n < 63) {
			t.Fatalf("Double of a bag of %d: %t", len(l), ok)
		}
		l = more
	}
}
