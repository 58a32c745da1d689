// Package plane is layer 1: where servers stand on a spiral, and how far it is from one to another. See shared/doc/01-plane.md.
package plane

import (
	"cmp"
	"math"
	"slices"

	"missive/api"
)

// reach is how far from 0 each part of a point may be.
const reach = 1 << 20

// walk goes along the spiral, from the spot 0 to the last one.
func walk(yield func(n int, z complex128) bool) {
	n, z, step := 0, complex128(0), complex128(1)
	for length := 1; ; length++ {
		for range 2 {
			for range length {
				if n > api.MaxSpot || !yield(n, z) {
					return
				}
				n++
				// A sum is -0 just of two that are: z begins without, so it has none, whatever the step's zeros are.
				z += step
			}
			step *= 1i
		}
	}
}

// Spot tells the n-th spot of the spiral.
func Spot(n int) (complex128, bool) {
	for k, z := range walk {
		if k == n {
			return z, true
		}
	}
	return 0, false
}

// Place tells the number of the spot z.
func Place(z complex128) (int, bool) {
	for n, at := range walk {
		if at == z {
			return n, true
		}
	}
	return 0, false
}

// Turn tells where z comes to lie, turned left q quarters about 0.
func Turn(z complex128, q int) (complex128, bool) {
	if !mayBe(z) {
		return 0, false
	}
	// The two lowest bits are q modulo 4, below 0 as well.
	for range q & 3 {
		z *= 1i
	}
	// To add 0 makes 0 of -0, and changes nothing else.
	return complex(real(z)+0, imag(z)+0), true
}

// Far tells how far a and b are apart, by the part in which they are further.
func Far(a, b complex128) (int, bool) {
	if !mayBe(a) || !mayBe(b) {
		return 0, false
	}
	return far(a, b), true
}

// Near tells the places in l of the k points that are nearest to z.
func Near(z complex128, l []complex128, k int) []int {
	if !mayBe(z) || k < 1 {
		return nil
	}
	var places []int
	for i, p := range l {
		if mayBe(p) {
			places = append(places, i)
		}
	}
	// The places stand in their own order, so a stable sort leaves the lesser one first of two that are as near.
	slices.SortStableFunc(places, func(i, j int) int {
		return cmp.Compare(far(z, l[i]), far(z, l[j]))
	})
	return slices.Clone(places[:min(k, len(places))])
}

// far is Far of two points that may be.
func far(a, b complex128) int {
	d := a - b
	return int(max(math.Abs(real(d)), math.Abs(imag(d))))
}

func mayBe(z complex128) bool {
	return mayBePart(real(z)) && mayBePart(imag(z))
}

func mayBePart(x float64) bool {
	return x >= -reach && x <= reach && x == math.Trunc(x)
}
