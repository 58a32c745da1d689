package keydir_test

import (
	"bytes"
	"fmt"
	"slices"
	"testing"

	"missive/api"
	"missive/keydir"
)

// P20.5

// packing asks for the bytes of a shelf, and for it of the bytes.
func packing(t *testing.T, x api.Shelf) []byte {
	t.Helper()
	was := stood(x)
	b, ok := keydir.Pack(x)
	if want := joined(shelfPieces(x)...); !ok || !bytes.Equal(b, want) {
		t.Fatalf("Pack(%v): %x %t, want %x", x, b, ok, want)
	}
	if y, ok := keydir.Unpack(b); !ok || !same(x, y) {
		t.Fatalf("Unpack of Pack(%v): %v %t", x, y, ok)
	}
	if !same(x, was) {
		t.Fatal("Pack changed the shelf")
	}
	return b
}

// refusesPack asks that a shelf can't be packed.
func refusesPack(t *testing.T, what string, x api.Shelf) {
	t.Helper()
	if b, ok := keydir.Pack(x); ok || len(b) != 0 {
		t.Errorf("Pack of %s: %x %t", what, b, ok)
	}
}

// unpacks asks whether bytes are a shelf's, by the words put down a second time.
func unpacks(t *testing.T, what string, b []byte) bool {
	t.Helper()
	x, ok := keydir.Unpack(b)
	switch {
	case ok != isShelf(b):
		t.Fatalf("Unpack of %s, %x: %t", what, b, ok)
	case !ok && !same(x, api.Shelf{}):
		t.Fatalf("Unpack of %s, %x: false, beside %v", what, b, x)
	case ok && !bytes.Equal(joined(shelfPieces(x)...), b):
		t.Fatalf("Unpack of %s, %x: %v", what, b, x)
	}
	return ok
}

// refusesBytes asks that bytes are no shelf's.
func refusesBytes(t *testing.T, what string, b []byte) {
	t.Helper()
	if unpacks(t, what, b) {
		t.Fatalf("Unpack of %s, %x: true", what, b)
	}
}

// marked is a bundle of which no two fields are alike, unlike ones for unlike numbers.
func marked(n byte) api.Bundle {
	k, l := run(n+4), run(n+5)
	return api.Bundle{Device: n, Agree: run(n + 1), Signer: run(n + 2), Id: 0x0100 + uint16(n), Once: run(n + 3), Sig: api.Sig(append(k[:], l[:]...))}
}

// filled is a shelf with a fallback and so many left.
func filled(left int) api.Shelf {
	x := api.Shelf{Has: true, Fallback: marked(7), Last: 0x0203}
	for i := range left {
		x.Left = append(x.Left, marked(byte(20+10*i)))
	}
	return x
}

func TestPack(t *testing.T) {
	packing(t, api.Shelf{})
	packing(t, api.Shelf{Left: []api.Bundle{}})
	packing(t, api.Shelf{Has: true})
	packing(t, api.Shelf{Has: true, Left: make([]api.Bundle, 8)})
	packing(t, api.Shelf{Left: make([]api.Bundle, 8)})
	for n := range 9 {
		packing(t, filled(n))
		x := filled(n)
		x.Has, x.Fallback = false, api.Bundle{}
		packing(t, x)
	}
	for _, last := range []uint16{0, 1, 255, 256, 257, 32768, 65534, 65535} {
		packing(t, api.Shelf{Last: last})
		packing(t, api.Shelf{Has: true, Last: last})
	}
	d := drawer(4)
	for i := range 200 {
		packing(t, d.shelf(i%9))
	}
	for _, a := range askers(t) {
		agree, signer, l := a.bundles(a.device(1, 3), 4)
		x := a.stocks("three", api.Shelf{}, 4, agree, signer, l, api.OK)
		for range 5 {
			packing(t, x)
			x, _, _ = claim(t, x)
		}
	}
}

// The bytes of some, by hand.
func TestPackByHand(t *testing.T) {
	bundle := func(n byte) []byte {
		key := func(n byte) []byte { k := run(n); return append([]byte{0, 32}, k[:]...) }
		b := slices.Concat([]byte{6, 0, 1, n}, key(n+1), key(n+2), []byte{0, 2, 1, n}, key(n+3), []byte{0, 64}, key(n + 4)[2:], key(n + 5)[2:])
		return append([]byte{0, 176}, b...)
	}
	for _, c := range []struct {
		x    api.Shelf
		want []byte
	}{
		{api.Shelf{}, []byte{2, 0, 2, 0, 0, 0, 0}},
		{api.Shelf{Last: 0x1234}, []byte{2, 0, 2, 0x12, 0x34, 0, 0}},
		{filled(0), slices.Concat([]byte{2, 0, 2, 2, 3}, bundle(7))},
		{filled(2), slices.Concat([]byte{4, 0, 2, 2, 3}, bundle(7), bundle(20), bundle(30))},
		{api.Shelf{Last: 1, Left: []api.Bundle{marked(9)}}, slices.Concat([]byte{3, 0, 2, 0, 1, 0, 0}, bundle(9))},
	} {
		if b := packing(t, c.x); !bytes.Equal(b, c.want) {
			t.Errorf("Pack: %x, want %x", b, c.want)
		}
	}
}

func TestPackOfWhatMayNotBe(t *testing.T) {
	for _, n := range []int{9, 10, 61, 62, 63, 64, 1000} {
		for _, x := range []api.Shelf{{}, {Has: true}, filled(0)} {
			x.Left = make([]api.Bundle, n)
			refusesPack(t, fmt.Sprint(n, " left"), x)
			refusesBytes(t, "a shelf with too many", joined(shelfPieces(x)[:min(n+2, 64)]...))
		}
	}
	// A fallback that there isn't has nothing in it.
	for i, set := range []func(b *api.Bundle){
		func(b *api.Bundle) { b.Device = 1 },
		func(b *api.Bundle) { b.Agree[31] = 1 },
		func(b *api.Bundle) { b.Signer[0] = 1 },
		func(b *api.Bundle) { b.Id = 256 },
		func(b *api.Bundle) { b.Once[31] = 1 },
		func(b *api.Bundle) { b.Sig[63] = 1 },
		func(b *api.Bundle) { *b = marked(3) },
	} {
		x := filled(i)
		x.Has, x.Fallback = false, api.Bundle{}
		set(&x.Fallback)
		refusesPack(t, fmt.Sprint("no fallback with the field ", i), x)
		x.Has = true
		packing(t, x)
	}
}

// Unlike shelves have unlike bytes: each field by itself.
func TestEachFieldIsPacked(t *testing.T) {
	seen := map[string]string{}
	put := func(what string, x api.Shelf) {
		b := string(packing(t, x))
		if seen[b] != "" {
			t.Errorf("%s is packed as %s", what, seen[b])
		}
		seen[b] = what
	}
	put("the whole", filled(2))
	for what, set := range map[string]func(x *api.Shelf){
		"Last":               func(x *api.Shelf) { x.Last++ },
		"Last's first":       func(x *api.Shelf) { x.Last += 256 },
		"no fallback":        func(x *api.Shelf) { x.Has, x.Fallback = false, api.Bundle{} },
		"a fallback of 0":    func(x *api.Shelf) { x.Fallback = api.Bundle{} },
		"the fallback":       func(x *api.Shelf) { x.Fallback = marked(90) },
		"the first as that":  func(x *api.Shelf) { x.Fallback = x.Left[0] },
		"Fallback.Device":    func(x *api.Shelf) { x.Fallback.Device++ },
		"Fallback.Agree":     func(x *api.Shelf) { x.Fallback.Agree[31]++ },
		"Fallback.Signer":    func(x *api.Shelf) { x.Fallback.Signer[31]++ },
		"Fallback.Id":        func(x *api.Shelf) { x.Fallback.Id++ },
		"Fallback.Id's 1st":  func(x *api.Shelf) { x.Fallback.Id += 256 },
		"Fallback.Once":      func(x *api.Shelf) { x.Fallback.Once[31]++ },
		"Fallback.Sig":       func(x *api.Shelf) { x.Fallback.Sig[63]++ },
		"none left":          func(x *api.Shelf) { x.Left = nil },
		"one left":           func(x *api.Shelf) { x.Left = x.Left[:1] },
		"the other one left": func(x *api.Shelf) { x.Left = x.Left[1:] },
		"the other way":      func(x *api.Shelf) { slices.Reverse(x.Left) },
		"Device":             func(x *api.Shelf) { x.Left[1].Device++ },
		"Agree":              func(x *api.Shelf) { x.Left[1].Agree[0]++ },
		"Signer":             func(x *api.Shelf) { x.Left[1].Signer[0]++ },
		"Id":                 func(x *api.Shelf) { x.Left[1].Id++ },
		"Id's first":         func(x *api.Shelf) { x.Left[1].Id += 256 },
		"Once":               func(x *api.Shelf) { x.Left[1].Once[0]++ },
		"Sig":                func(x *api.Shelf) { x.Left[1].Sig[0]++ },
		"one twice":          func(x *api.Shelf) { x.Left[1] = x.Left[0] },
		"one of zeros":       func(x *api.Shelf) { x.Left[0] = api.Bundle{} },
	} {
		x := filled(2)
		set(&x)
		put(what, x)
	}
}

// instead are pieces of other lengths, such that only begin as p does, and such whose own pieces are others.
func instead(p []byte) [][]byte {
	l := [][]byte{nil, {0}, {7}, {0, 0}, {1, 0}, {0, 0, 0}, {6}, make([]byte, 8), make([]byte, 9), make([]byte, 175), make([]byte, 176), make([]byte, 177), make([]byte, 4096)}
	l = append(l, append(slices.Clone(p), 0), append([]byte{0}, p...), joined(p))
	if len(p) > 0 {
		l = append(l, p[1:], p[:len(p)-1])
	}
	pieces, _ := split(bundleBytes(marked(60)))
	for i, q := range pieces {
		for _, r := range [][]byte{nil, q[1:], append(slices.Clone(q), 0), make([]byte, 8), make([]byte, 32)} {
			l = append(l, joined(with(pieces, i, r)...))
		}
		l = append(l, joined(slices.Delete(slices.Clone(pieces), i, i+1)...), joined(slices.Insert(slices.Clone(pieces), i, q)...))
	}
	return append(l, joined(pieces...))
}

func TestUnpackOfOtherPieces(t *testing.T) {
	bare := filled(3)
	bare.Has, bare.Fallback = false, api.Bundle{}
	for _, x := range []api.Shelf{{}, bare, filled(0), filled(1), filled(2), filled(7), filled(8)} {
		l := shelfPieces(x)
		for i, p := range l {
			for _, other := range instead(p) {
				unpacks(t, "another piece", joined(with(l, i, other)...))
			}
			unpacks(t, "a piece less", joined(slices.Delete(slices.Clone(l), i, i+1)...))
			unpacks(t, "a piece twice", joined(slices.Insert(slices.Clone(l), i, p)...))
			unpacks(t, "no more than some pieces", joined(l[:i]...))
			for j := range i {
				m := slices.Clone(l)
				m[i], m[j] = m[j], m[i]
				unpacks(t, "two pieces round", joined(m...))
			}
		}
		for _, p := range instead(nil) {
			unpacks(t, "a piece more", joined(append(slices.Clone(l), p)...))
		}
	}
}

func TestUnpackOfOtherBytes(t *testing.T) {
	for _, x := range []api.Shelf{{}, {Last: 3, Left: []api.Bundle{marked(1)}}, filled(0), filled(2)} {
		b := joined(shelfPieces(x)...)
		for i := range b {
			refusesBytes(t, "what is cut off", b[:i])
			for _, n := range []byte{0, 1, 2, 3, 31, 33, 255, b[i] + 1, b[i] - 1, b[i] ^ 128} {
				unpacks(t, "another byte", with(b, i, n))
			}
		}
		refusesBytes(t, "what has more behind", append(slices.Clone(b), 0))
		refusesBytes(t, "what has itself behind", append(slices.Clone(b), b...))
	}
	refusesBytes(t, "nothing", nil)
	refusesBytes(t, "no pieces", []byte{0})
	refusesBytes(t, "too many pieces", []byte{65})
	refusesBytes(t, "zeros", make([]byte, 600))
	refusesBytes(t, "a bundle", bundleBytes(marked(1)))
	d := drawer(6)
	for n := range 300 {
		unpacks(t, "drawn bytes", d.text(n))
	}
}
