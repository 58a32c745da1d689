package ratchet_test

import (
	"bytes"
	"slices"
	"testing"

	"missive/api"
	"missive/ratchet"
)

// P18.4

// packing asks for the bytes of a session, and for it of the bytes.
func packing(t *testing.T, x api.Session) []byte {
	t.Helper()
	b, ok := ratchet.Pack(x)
	if want := joined(packed(x)...); !ok || !bytes.Equal(b, want) {
		t.Fatalf("Pack(%s): %x %t, want %x", told(x), b, ok, want)
	}
	if y, ok := ratchet.Unpack(b); !ok || !same(x, y) {
		t.Fatalf("Unpack of Pack(%s): %s %t", told(x), told(y), ok)
	}
	return b
}

// unpacks asks whether bytes are a session's, by the words put down a second time.
func unpacks(t *testing.T, what string, b []byte) {
	t.Helper()
	x, ok := ratchet.Unpack(b)
	switch {
	case ok != isSession(b):
		t.Fatalf("Unpack of %s, %x: %t", what, b, ok)
	case !ok && !same(x, api.Session{}):
		t.Fatalf("Unpack of %s, %x: false, beside %s", what, b, told(x))
	case ok && !bytes.Equal(joined(packed(x)...), b):
		t.Fatalf("Unpack of %s, %x: %s", what, b, told(x))
	}
}

// refuses asks that bytes are no session's.
func refuses(t *testing.T, what string, b []byte) {
	t.Helper()
	unpacks(t, what, b)
	if _, ok := ratchet.Unpack(b); ok {
		t.Fatalf("Unpack of %s, %x: true", what, b)
	}
}

// filled is a session of which no two fields are alike.
func filled(keys int) api.Session {
	x := api.Session{
		Id: run(1), Root: run(2), Mine: run(3), HasSend: true, Send: api.Chain{Key: run(4), N: 0x0102}, Prev: 0x0304,
		Theirs: run(5), HasRecv: true, Recv: api.Chain{Key: run(6), N: 0x0506},
		First: true, Agree: run(7), Signer: run(8), Base: run(9), Once: 0x0708,
	}
	for i := range keys {
		x.Kept = append(x.Kept, api.Kept{Ratchet: run(byte(50 + i)), N: 0x090a + uint16(i), Key: run(byte(150 + i))})
	}
	return x
}

func TestPack(t *testing.T) {
	packing(t, api.Session{})
	packing(t, api.Session{Kept: []api.Kept{}})
	packing(t, api.Session{Kept: make([]api.Kept, 16)})
	for n := range 17 {
		packing(t, filled(n))
	}
	for flags := range 8 {
		x := filled(flags)
		x.HasSend, x.HasRecv, x.First = flags&1 != 0, flags&2 != 0, flags&4 != 0
		packing(t, x)
		packing(t, api.Session{HasSend: x.HasSend, HasRecv: x.HasRecv, First: x.First})
	}
	a := reckoner(t)
	d := drawer(4)
	for range 300 {
		x := d.anySession(a, keys())
		x.Kept = x.Kept[:min(len(x.Kept), 16)]
		packing(t, x)
	}
}

// The bytes of one, by hand.
func TestPackByHand(t *testing.T) {
	key := func(n byte) []byte { k := run(n); return append([]byte{0, 32}, k[:]...) }
	k, l := run(50), run(150)
	want := slices.Concat(
		[]byte{17}, key(1), key(2), key(3), []byte{0, 1, 1}, key(4), []byte{0, 2, 1, 2}, []byte{0, 2, 3, 4}, key(5), []byte{0, 1, 1}, key(6), []byte{0, 2, 5, 6},
		[]byte{0, 1, 1}, key(7), key(8), key(9), []byte{0, 2, 7, 8}, []byte{0, 73, 3, 0, 32}, k[:], []byte{0, 2, 9, 10, 0, 32}, l[:],
	)
	if b := packing(t, filled(1)); !bytes.Equal(b, want) {
		t.Errorf("Pack: %x, want %x", b, want)
	}
}

func TestPackOfTooMany(t *testing.T) {
	for _, n := range []int{17, 18, 32, 48, 49, 64, 1000} {
		if b, ok := ratchet.Pack(api.Session{Id: api.Key{1}, Kept: kept(api.Key{2}, 0, n)}); ok || len(b) != 0 {
			t.Errorf("Pack with %d keys: %x %t", n, b, ok)
		}
		var l [][]byte
		for _, k := range kept(api.Key{2}, 0, min(n, 48)) {
			l = append(l, joined(k.Ratchet[:], number(k.N), k.Key[:]))
		}
		refuses(t, "a session with too many keys", joined(append(packed(filled(0)), l...)...))
	}
}

// Unlike sessions have unlike bytes: each field by itself.
func TestEachFieldIsPacked(t *testing.T) {
	seen := map[string]string{}
	put := func(what string, x api.Session) {
		b := string(packing(t, x))
		if seen[b] != "" {
			t.Errorf("%s is packed as %s", what, seen[b])
		}
		seen[b] = what
	}
	put("the whole", filled(2))
	for what, set := range map[string]func(x *api.Session){
		"Id":             func(x *api.Session) { x.Id[31]++ },
		"Root":           func(x *api.Session) { x.Root[31]++ },
		"Mine":           func(x *api.Session) { x.Mine[31]++ },
		"HasSend":        func(x *api.Session) { x.HasSend = false },
		"Send.Key":       func(x *api.Session) { x.Send.Key[31]++ },
		"Send.N":         func(x *api.Session) { x.Send.N += 256 },
		"Prev":           func(x *api.Session) { x.Prev++ },
		"Theirs":         func(x *api.Session) { x.Theirs[31]++ },
		"HasRecv":        func(x *api.Session) { x.HasRecv = false },
		"Recv.Key":       func(x *api.Session) { x.Recv.Key[31]++ },
		"Recv.N":         func(x *api.Session) { x.Recv.N++ },
		"First":          func(x *api.Session) { x.First = false },
		"Agree":          func(x *api.Session) { x.Agree[31]++ },
		"Signer":         func(x *api.Session) { x.Signer[31]++ },
		"Base":           func(x *api.Session) { x.Base[31]++ },
		"Once":           func(x *api.Session) { x.Once++ },
		"no key":         func(x *api.Session) { x.Kept = nil },
		"one key":        func(x *api.Session) { x.Kept = x.Kept[:1] },
		"the other key":  func(x *api.Session) { x.Kept = x.Kept[1:] },
		"the keys round": func(x *api.Session) { slices.Reverse(x.Kept) },
		"Kept.Ratchet":   func(x *api.Session) { x.Kept[1].Ratchet[31]++ },
		"Kept.N":         func(x *api.Session) { x.Kept[1].N++ },
		"Kept.Key":       func(x *api.Session) { x.Kept[1].Key[31]++ },
		"a key twice":    func(x *api.Session) { x.Kept[1] = x.Kept[0] },
	} {
		x := filled(2)
		set(&x)
		put(what, x)
	}
}

// others are what stands instead of a piece: of another length, another number, another text.
func others(p []byte) [][]byte {
	l := [][]byte{nil, {0}, {1}, {2}, {255}, {0, 0}, {1, 0}, {0, 0, 0}, make([]byte, 31), make([]byte, 32), make([]byte, 33), make([]byte, 73), make([]byte, 4096)}
	l = append(l, append(slices.Clone(p), 0), append([]byte{0}, p...))
	if len(p) > 0 {
		l = append(l, p[1:], p[:len(p)-1])
	}
	return l
}

func TestUnpackOfOtherPieces(t *testing.T) {
	for _, n := range []int{0, 1, 2, 15, 16} {
		l := packed(filled(n))
		for i, p := range l {
			for _, other := range others(p) {
				m := slices.Clone(l)
				m[i] = other
				unpacks(t, "another piece", joined(m...))
			}
			unpacks(t, "a piece less", joined(slices.Delete(slices.Clone(l), i, i+1)...))
			unpacks(t, "a piece twice", joined(slices.Insert(slices.Clone(l), i, p)...))
			unpacks(t, "no more than some pieces", joined(l[:i]...))
			for j := range i {
				m := slices.Clone(l)
				m[i], m[j] = m[j], m[i]
				unpacks(t, "two pieces round", joined(m...))
			}
		}
		for _, p := range [][]byte{nil, {0}, {3}, make([]byte, 32), make([]byte, 73)} {
			refuses(t, "a piece more", joined(append(slices.Clone(l), p)...))
		}
	}
}

func TestUnpackOfOtherFlags(t *testing.T) {
	for _, i := range []int{3, 8, 11} {
		l := packed(filled(1))
		for n := range 256 {
			l[i] = []byte{byte(n)}
			b := joined(l...)
			unpacks(t, "a flag", b)
			if _, ok := ratchet.Unpack(b); ok != (n < 2) {
				t.Errorf("Unpack with the flag %d: %t", n, ok)
			}
		}
	}
}

func TestUnpackOfOtherKeys(t *testing.T) {
	fixed := packed(filled(0))
	k := filled(1).Kept[0]
	parts := [][]byte{k.Ratchet[:], number(k.N), k.Key[:]}
	with := func(p []byte) []byte { return joined(append(slices.Clone(fixed), p)...) }
	if _, ok := ratchet.Unpack(with(joined(parts...))); !ok {
		t.Fatal("a key's piece isn't taken")
	}
	for i, p := range parts {
		for _, other := range others(p) {
			m := slices.Clone(parts)
			m[i] = other
			if piece := joined(m...); len(piece) <= 4096 {
				unpacks(t, "another key's piece", with(piece))
			}
		}
		refuses(t, "a key's piece less", with(joined(slices.Delete(slices.Clone(parts), i, i+1)...)))
		refuses(t, "a key's piece twice", with(joined(slices.Insert(slices.Clone(parts), i, p)...)))
	}
	whole := joined(parts...)
	for n := range whole {
		refuses(t, "a key that is cut off", with(whole[:n]))
	}
	refuses(t, "a key with a byte behind", with(append(slices.Clone(whole), 0)))
	refuses(t, "a key with a piece behind", with(joined(append(slices.Clone(parts), nil)...)))
}

func TestUnpackOfOtherBytes(t *testing.T) {
	for _, n := range []int{0, 2} {
		b := joined(packed(filled(n))...)
		for i := range b {
			refuses(t, "what is cut off", b[:i])
			for _, x := range []byte{0, 1, 2, 3, 31, 33, 255, b[i] + 1, b[i] - 1, b[i] ^ 128} {
				other := slices.Clone(b)
				other[i] = x
				unpacks(t, "another byte", other)
			}
		}
		refuses(t, "what has more behind", append(slices.Clone(b), 0))
		refuses(t, "what has itself behind", append(slices.Clone(b), b...))
	}
	refuses(t, "nothing", nil)
	refuses(t, "no pieces", []byte{0})
	refuses(t, "too many pieces", []byte{65})
	refuses(t, "zeros", make([]byte, 600))
	d := drawer(6)
	for n := range 300 {
		unpacks(t, "drawn bytes", d.text(3*n))
	}
}
