package foe_test

import (
	"bytes"
	"fmt"
	"math"
	"slices"
	"strings"
	"testing"

	"missive/api"
	"missive/foe"
	"missive/suite"
)

// P25.1

func TestExamples(t *testing.T) {
	for _, k := range kitchens(t) {
		both := []api.Step{write("ab"), write("c"), join(0, 1)}
		k.is([]byte{2, 0, 2, 'a', 'b', 0, 1, 'c'}, both...)
		k.is([]byte("c"), with(both, piece(2, 1))...)
		k.is([]byte("ab"), with(both, piece(2, 0))...)
		k.not(with(both, piece(2, 2))...)
		k.not(write("xterm"))
	}
}

// Of one step, and of 32: what the last one makes.
func TestSteps(t *testing.T) {
	for _, k := range kitchens(t) {
		k.not()
		var steps []api.Step
		for n := range 40 {
			steps = append(steps, write(fmt.Sprint("the ", n)))
			if n < 32 {
				k.is([]byte(fmt.Sprint("the ", n)), steps...)
			} else {
				k.not(steps...)
			}
		}
	}
}

// Of too many steps none is done.
func TestTooManySteps(t *testing.T) {
	k := free(t)
	var steps []api.Step
	for n := range 33 {
		steps = append(steps, fresh(n))
	}
	k.not(steps...)
	if k.count() != 0 {
		t.Errorf("%d terms were made", k.count())
	}
	k.done(true, steps[:32]...)
	if k.count() != 32 {
		t.Errorf("%d terms were made", k.count())
	}
}

// Wherever the step stands that can't be done, nothing comes of all, and what was made ahead of it stays made.
func TestOneThatCannotBeDone(t *testing.T) {
	for at := range 32 {
		k := free(t)
		var steps []api.Step
		for n := range 32 {
			steps = append(steps, fresh(n))
		}
		steps[at] = write("term")
		k.not(steps...)
		if k.count() != at {
			t.Errorf("ahead of the step %d there were made %d terms", at, k.count())
		}
	}
}

// All kinds there may be, beside steps of which each kind can be done.
func TestKinds(t *testing.T) {
	for _, k := range kitchens(t) {
		k.own, k.seen = []api.Key{{9}}, [][]byte{[]byte("seen")}
		ahead := []api.Step{held(0), fresh(1), public(1), write("text"), join(3), seal(0, 3)}
		x := api.Step{N: 0, Parts: []int{3}, Bytes: []byte("b")}
		for _, kind := range slices.Concat(extremes(), []int{3, 6, 7, 9, 10, 11, 12, 13, 14, 1<<32 + 1, 1<<32 + 13, 1<<8 + 2, 1<<16 + 5}) {
			x.Kind, x.A, x.B = kind, 0, 2
			switch kind {
			case api.FoePiece:
				x.A = 4
			case api.FoeOpen:
				x.B = 5
			}
			k.done(kind >= 1 && kind <= 13, with(ahead, x)...)
		}
	}
}

// What a kind doesn't name may be anything.
func TestFieldsThatAreNotNamed(t *testing.T) {
	for _, k := range kitchens(t) {
		k.own, k.seen = []api.Key{{9}}, [][]byte{[]byte("seen")}
		ahead := []api.Step{held(0), fresh(1), public(1), write("text"), join(3), seal(0, 3)}
		for _, x := range []api.Step{write("w"), seen(0), piece(4, 0), join(3, 4), fresh(0), public(0), signer(0), agree(0, 2), sign(0, 3), mix(7, 3), seal(0, 3), open(0, 5), held(0)} {
			want, _ := k.cook(with(ahead, x)...)
			named := map[int]string{1: "bytes", 2: "n", 3: "a n", 4: "parts", 5: "n", 6: "a", 7: "a", 8: "a b", 9: "a b", 10: "n parts", 11: "a b", 12: "a b", 13: "n"}[x.Kind]
			for _, odd := range []int{-1, 6, 99, math.MaxInt, math.MinInt} {
				y := api.Step{Kind: x.Kind, A: odd, B: odd, N: odd, Bytes: []byte("no term is it, nor few"), Parts: slices.Repeat([]int{odd}, 20)}
				for _, f := range strings.Fields(named) {
					switch f {
					case "a":
						y.A = x.A
					case "b":
						y.B = x.B
					case "n":
						y.N = x.N
					case "bytes":
						y.Bytes = x.Bytes
					case "parts":
						y.Parts = x.Parts
					}
				}
				k.is(want, with(ahead, y)...)
			}
		}
	}
}

func TestWrite(t *testing.T) {
	k := free(t)
	for n := range 20 {
		k.done(n <= 12, write(strings.Repeat("t", n)))
		k.done(n <= 12, write(strings.Repeat("\x00", n)))
	}
	k.done(false, write(strings.Repeat("x", 70000)))
	k.is(nil, api.Step{Kind: api.FoeWrite})
	k.is(nil, api.Step{Kind: api.FoeWrite, Bytes: []byte{}})
	for b := range 256 {
		k.is([]byte{byte(b)}, api.Step{Kind: api.FoeWrite, Bytes: []byte{byte(b)}})
	}
	for size := 4; size <= 12; size++ {
		for at := 0; at+4 <= size; at++ {
			b := bytes.Repeat([]byte("."), size)
			copy(b[at:], "term")
			k.not(write(string(b)))
			for i := range 4 {
				for _, by := range []byte{1, 32, 128} {
					other := bytes.Clone(b)
					other[at+i] ^= by
					k.is(other, write(string(other)))
				}
			}
		}
	}
	for _, s := range []string{"ter", "erm", "TERM", "Term", "te rm", "tterm"[:4], "mret", "t\x00e\x00r\x00m", "tertertererm", "tetrm"} {
		k.is([]byte(s), write(s))
	}
	// Too long, too, with the mark in it.
	for _, s := range []string{"term", "tterm", "termterm", "tertermm", "term\x00\x00\x00\x01", "term, and more", "more, then term", strings.Repeat("term", 9)} {
		k.not(write(s))
	}
}

func TestSeen(t *testing.T) {
	for _, k := range kitchens(t) {
		d := drawer(1)
		k.seen = [][]byte{nil, []byte("term"), d.text(8191), d.text(8192), d.text(8193), d.text(9000), {}, []byte("last")}
		for _, n := range slices.Concat(extremes(), []int{3, 4, 5, 6, 7, 8, 9, -8}) {
			if n < 0 || n >= len(k.seen) || len(k.seen[n]) > 8192 {
				k.not(seen(n))
				continue
			}
			k.is(k.seen[n], seen(n))
		}
		// Who makes too much on the way comes to nothing, too.
		k.not(seen(4), write("end"))
		k.is([]byte("end"), seen(3), write("end"))
		k.seen = nil
		for _, n := range []int{-1, 0, 1} {
			k.not(seen(n))
		}
	}
}

func TestPiece(t *testing.T) {
	d := drawer(2)
	k := free(t)
	for _, sizes := range [][]int{{}, {0}, {1}, {5, 0, 3}, {4096}, {4090, 4000}, {0, 0, 0, 0}} {
		var l [][]byte
		for _, n := range sizes {
			l = append(l, d.text(n))
		}
		k.seen = append(k.seen, of(l...))
	}
	k.seen = append(k.seen, of(slices.Repeat([][]byte{{7}}, 64)...), []byte("text"), nil, slices.Repeat([]byte{0}, 2), []byte{65}, slices.Concat([]byte{65}, slices.Repeat([]byte{0}, 130)), []byte{1, 16, 1})
	k.seen = append(k.seen, slices.Concat([]byte{1, 16, 1}, zeros(4097)))
	for at, b := range k.seen {
		l, ok := pieces(b)
		if ok != (at < 8) {
			t.Fatalf("of %x there are the pieces %x", head(b), l)
		}
		for _, n := range slices.Concat(extremes(), []int{62, 66}) {
			if n < 0 || n >= len(l) || !ok {
				k.not(seen(at), piece(0, n))
				continue
			}
			k.is(l[n], seen(at), piece(0, n))
		}
	}
}

// What is cut off a joined text, or put behind it, has no pieces.
func TestPieceOfOtherBytes(t *testing.T) {
	k := free(t)
	good := of([]byte("one"), nil, []byte("three"))
	for n := range good {
		k.seen = append(k.seen, good[:n])
	}
	k.seen = append(k.seen, append(bytes.Clone(good), 0), good[1:])
	for at := range k.seen {
		for n := range 4 {
			k.not(seen(at), piece(0, n))
		}
	}
	for i := range good {
		for by := range 256 {
			k.seen = [][]byte{bytes.Clone(good)}
			k.seen[0][i] ^= byte(by)
			for n := range 4 {
				k.cook(seen(0), piece(0, n))
			}
		}
	}
}

// places are some that there are not, of so many steps ahead: that of the step itself, those behind it.
func places(n int) []int {
	return slices.DeleteFunc(slices.Concat(extremes(), []int{n, n + 1}), func(i int) bool { return i >= 0 && i < n })
}

// Each kind that names places, with each of these a place that isn't there.
func TestPlaces(t *testing.T) {
	k := free(t)
	k.own = []api.Key{{9}}
	ahead := []api.Step{held(0), fresh(1), public(1), write("text"), join(3), seal(0, 3)}
	for _, x := range []api.Step{piece(4, 0), join(3, 4), public(0), signer(0), agree(0, 2), sign(0, 3), mix(7, 3, 4), seal(0, 3), open(0, 5)} {
		k.done(true, with(ahead, x)...)
		for _, i := range places(len(ahead)) {
			a, b, first, last := x, x, x, x
			a.A, b.B = i, i
			first.Parts, last.Parts = append([]int{i}, x.Parts...), append(slices.Clone(x.Parts), i)
			for _, y := range []api.Step{a, b, first, last} {
				k.cook(with(ahead, y)...)
				k.cook(with(ahead, y, write("behind"))...)
			}
			if x.Parts != nil {
				k.not(with(ahead, first)...)
				k.not(with(ahead, last)...)
			} else {
				k.not(with(ahead, a)...)
			}
			if slices.Contains([]int{api.FoeAgree, api.FoeSign, api.FoeSeal, api.FoeOpen}, x.Kind) {
				k.not(with(ahead, b)...)
			}
		}
	}
	// The first step has no places ahead of it.
	for _, x := range []api.Step{piece(0, 0), join(0), public(0), signer(0), agree(0, 0), sign(0, 0), mix(0, 0), seal(0, 0), open(0, 0)} {
		k.not(x)
	}
}

func TestJoin(t *testing.T) {
	k := free(t)
	k.is([]byte{0}, join())
	k.is([]byte{0}, api.Step{Kind: api.FoeJoin, Parts: []int{}})
	for n := range 70 {
		k.done(n <= 16, write("a"), join(slices.Repeat([]int{0}, n)...))
	}
	k.done(false, write("a"), join(slices.Repeat([]int{0}, 100000)...))
	k.is(of([]byte("b"), []byte("a"), []byte("b"), nil, of([]byte("b"))), write("a"), write("b"), write(""), join(1), join(1, 0, 1, 2, 3))
	// The longest piece, and the longest text.
	k.seen = [][]byte{zeros(4095), zeros(4096), zeros(4097), zeros(4091), zeros(4092), zeros(4090)}
	k.is(of(k.seen[1]), seen(1), join(0))
	k.not(seen(2), join(0))
	k.not(seen(2), write("a"), join(1, 0))
	k.done(true, seen(1), seen(5), join(0, 1))
	k.done(true, seen(1), seen(3), join(0, 1))
	k.done(false, seen(1), seen(4), join(0, 1))
	k.not(seen(1), seen(4), join(0, 1), write("end"))
	k.not(seen(1), join(slices.Repeat([]int{0}, 16)...))
	if b, _ := k.cook(seen(1), seen(3), join(0, 1)); len(b) != api.MaxCooked {
		t.Errorf("the longest text has %d bytes", len(b))
	}
}

// Fresh of the foe's own draws, which are in nobody else's order.
func TestFresh(t *testing.T) {
	for _, k := range kitchens(t) {
		for _, n := range slices.Concat(extremes(), []int{251, 4660, 65534, 65536, 65537, 1<<32 + 5, 1<<48 + 1}) {
			k.done(n >= 0 && n <= 65535, fresh(n))
		}
	}
	k := real(t)
	for n := range 65536 {
		k.is(slices.Concat([]byte{0, 251, byte(n >> 8), byte(n)}, zeros(28)), fresh(n))
	}
}

// freshKey is the foe's secret of the number.
func (k *kitchen) freshKey(n int) api.Key {
	return k.one.Fresh(api.Key{0, 251, byte(n >> 8), byte(n)})
}

func TestPublicAndSigner(t *testing.T) {
	for _, k := range kitchens(t) {
		d := drawer(3)
		k.own = []api.Key{{}, {1}, d.key(), named(1), named(2), named(9), {31: 255}}
		for n, x := range k.own {
			k.done(true, held(n), public(0))
			k.done(true, held(n), signer(0))
			p, q := k.one.Public(x), k.one.Signer(x)
			k.is(p[:], held(n), public(0))
			k.is(q[:], held(n), signer(0))
		}
		for n := range 70 {
			k.seen = append(k.seen, zeros(n))
			k.done(n == 32, seen(n), public(0))
			k.done(n == 32, seen(n), signer(0))
		}
	}
}

func TestAgree(t *testing.T) {
	for _, k := range kitchens(t) {
		k.own = []api.Key{{9}, {2}}
		k.done(true, held(0), held(1), public(1), agree(0, 2))
		k.done(true, held(0), public(0), held(1), agree(2, 1))
		a, _ := k.cook(held(0), held(1), public(1), agree(0, 2))
		b, _ := k.cook(held(0), public(0), held(1), agree(2, 1))
		if !bytes.Equal(a, b) {
			t.Errorf("two don't agree: %x, %x", a, b)
		}
		for n := range 70 {
			k.seen = append(k.seen, bytes.Repeat([]byte{9}, n))
			k.done(n == 32, seen(n), held(0), agree(0, 1))
			k.done(n == 32, seen(n), held(0), agree(1, 0))
		}
		k.own = low()
		for n := range k.own {
			k.done(k.count() > 0, fresh(3), held(n), agree(0, 1))
		}
	}
}

func TestSign(t *testing.T) {
	for name, k := range kitchens(t) {
		for _, n := range []int{0, 1, 31, 32, 33, 4095, 4096, 4097, 4098, 8192} {
			k.seen = [][]byte{bytes.Repeat([]byte{5}, n)}
			k.done(n <= 4096, fresh(1), seen(0), sign(0, 1))
			b, ok := k.cook(fresh(1), seen(0), sign(0, 1))
			sig := k.one.Sign(k.freshKey(1), k.seen[0])
			if ok && (!bytes.Equal(b, sig[:]) || !k.one.Verify(k.one.Signer(k.freshKey(1)), k.seen[0], sig)) {
				t.Errorf("%s: the signature of %d bytes: %x", name, n, b)
			}
			k.two.Sign(k.freshKey(1), k.seen[0])
			k.two.Signer(k.freshKey(1))
		}
		for n := range 70 {
			k.seen = [][]byte{zeros(n)}
			k.done(n == 32, seen(0), write("text"), sign(0, 1))
		}
	}
}

func TestMix(t *testing.T) {
	for _, k := range kitchens(t) {
		for _, label := range slices.Concat(extremes(), []int{'F', 254, 258, 1<<32 + 7}) {
			k.done(label >= 0 && label <= 255, write("a"), mix(label, 0))
		}
		for n := range 20 {
			k.done(n <= 8, write("a"), mix(1, slices.Repeat([]int{0}, n)...))
		}
		k.done(true, mix(1))
		k.done(false, write("a"), mix(1, slices.Repeat([]int{0}, 100000)...))
		for _, n := range []int{0, 1, 1023, 1024, 1025, 4096, 8192} {
			k.seen = [][]byte{zeros(n)}
			k.done(n <= 1024, seen(0), write("a"), mix(1, 1, 0))
			k.done(n <= 1024, seen(0), write("a"), mix(1, 0, 1))
		}
		want, _ := k.one.Mix(200, []byte("b"), []byte("a"), []byte("b"))
		k.two.Mix(200, []byte("b"), []byte("a"), []byte("b"))
		k.is(want[:], write("a"), write("b"), mix(200, 1, 0, 1))
	}
}

func TestSealAndOpen(t *testing.T) {
	for _, k := range kitchens(t) {
		for _, n := range []int{0, 1, 15, 16, 17, 1023, 1024, 1025, 4096, 8192} {
			k.seen = [][]byte{bytes.Repeat([]byte{6}, n)}
			sealed := []api.Step{fresh(1), seen(0), fresh(2), seal(0, 1)}
			k.done(n <= 1024, sealed...)
			if n <= 1024 {
				k.is(k.seen[0], with(sealed, open(0, 3))...)
			}
			k.not(with(sealed, open(2, 3))...)
			k.not(with(sealed, open(1, 3))...)
			k.not(with(sealed, open(3, 3))...)
			k.not(with(sealed, open(0, 1))...)
			k.not(with(sealed, open(0, 0))...)
		}
		for n := range 70 {
			k.seen = [][]byte{zeros(n)}
			k.done(n == 32, seen(0), write("text"), seal(0, 1))
			k.not(seen(0), write("text"), open(0, 1))
		}
	}
}

// What is sealed is opened as it is, or not at all.
func TestOpenOfOtherBytes(t *testing.T) {
	for _, k := range kitchens(t) {
		good, _ := k.cook(fresh(1), write("text"), seal(0, 1))
		for i := range good {
			other := bytes.Clone(good)
			other[i] ^= 1
			k.seen = append(k.seen, other, good[:i])
		}
		k.seen = append(k.seen, append(bytes.Clone(good), 0))
		for n := range k.seen {
			k.not(fresh(1), seen(n), open(0, 1))
		}
		k.seen = [][]byte{good}
		k.is([]byte("text"), fresh(1), seen(0), open(0, 1))
	}
}

func TestOwn(t *testing.T) {
	for _, k := range kitchens(t) {
		d := drawer(4)
		k.own = []api.Key{d.key(), {}, d.key(), named(1), d.key()}
		for _, n := range slices.Concat(extremes(), []int{4, 5, 6, -5}) {
			if n < 0 || n >= len(k.own) {
				k.not(held(n))
				continue
			}
			k.is(k.own[n][:], held(n))
		}
		k.own = nil
		for _, n := range []int{-1, 0, 1} {
			k.not(held(n))
		}
	}
}

// What a step makes stands at its own place, whatever is made behind it.
func TestEachPlaceHasItsOwn(t *testing.T) {
	for _, k := range kitchens(t) {
		d := drawer(5)
		k.own = []api.Key{d.key(), d.key()}
		k.seen = [][]byte{d.text(40), of(d.text(3), d.text(4))}
		steps := []api.Step{write("text"), seen(0), seen(1), piece(2, 0), join(0, 1, 2), fresh(7), public(5), signer(5), held(0), public(8), agree(5, 9), sign(8, 4), mix(9, 1, 3), seal(10, 4), open(10, 13), held(1), piece(14, 2)}
		var want [][]byte
		for n := range steps {
			b, ok := k.cook(steps[:n+1]...)
			if !ok {
				t.Fatalf("the step %d can't be done", n)
			}
			want = append(want, b)
		}
		if !bytes.Equal(want[14], want[4]) || !bytes.Equal(want[16], k.seen[1]) {
			t.Errorf("what was sealed is opened as %x", want[14])
		}
		for n := range steps {
			k.is(of(want[n]), with(steps, join(n))...)
		}
	}
}

// Each step makes its term, and they come in the steps' order.
func TestTermsInOrder(t *testing.T) {
	k := free(t)
	k.own = []api.Key{{5}}
	steps := []api.Step{fresh(2), fresh(1), public(1), signer(0), agree(0, 2), held(0), agree(1, 5), write("text"), sign(1, 7), mix(3, 7, 0), seal(9, 7), open(9, 10), fresh(2), join(0, 1)}
	k.done(true, steps...)
	one, two, text := named(1), named(2), []byte("text")
	for n, want := range []struct {
		kind  int
		parts [][]byte
	}{
		{1, [][]byte{slices.Concat([]byte{0, 251, 0, 2}, zeros(28))}},
		{1, [][]byte{slices.Concat([]byte{0, 251, 0, 1}, zeros(28))}},
		{2, [][]byte{two[:]}},
		{5, [][]byte{one[:]}},
		{3, [][]byte{one[:], two[:]}},
		{4, [][]byte{two[:], k.own[0][:]}},
		{6, [][]byte{two[:], text}},
		{7, [][]byte{{3}, text, one[:]}},
		{8, [][]byte{slices.Concat([]byte("term"), []byte{0, 0, 0, 8}, zeros(24)), text}},
	} {
		kind, parts, ok := k.one.Terms().Of(named(n + 1))
		if !ok || kind != want.kind || !sameLists(parts, want.parts) {
			t.Errorf("the term %d is of %d %x", n+1, kind, parts)
		}
	}
	if k.count() != 9 {
		t.Errorf("there are %d terms", k.count())
	}
}

// A full table refuses each step that would make a term, and none that finds its own.
func TestFullTable(t *testing.T) {
	k := free(t)
	k.own = []api.Key{{5}, {6}}
	ahead := []api.Step{fresh(0), public(0), signer(0), held(0), agree(3, 1), write("text"), sign(0, 5), mix(1, 5), seal(0, 5)}
	k.done(true, ahead...)
	both(k, func(s suite.Suite) int {
		for n := 1; s.Terms().Len() < api.MaxTerms; n++ {
			s.Terms().Make(1, []byte{byte(n >> 8), byte(n), 1})
		}
		return 0
	})
	for n := range ahead {
		k.done(true, ahead[:n+1]...)
	}
	k.done(true, with(ahead, open(0, 8))...)
	for _, x := range []api.Step{fresh(1), public(3), signer(3), agree(3, 3), sign(3, 5), sign(0, 0), mix(2, 5), seal(3, 5), seal(0, 0)} {
		k.not(with(ahead, x)...)
		k.not(with(ahead, x, write("end"))...)
	}
	if b, ok := foe.Cook(k.one, with(ahead, join(0, 5)), nil, k.own); !ok || k.count() != api.MaxTerms {
		t.Errorf("of a full table: %x %t, %d terms", b, ok, k.count())
	}
}
