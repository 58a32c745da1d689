package bag_test

import (
	"bytes"
	"slices"
	"testing"

	"missive/api"
	"missive/bag"
	"missive/plane"
	"missive/wire"
)

// P24.1

func TestLayExamples(t *testing.T) {
	for _, c := range []struct {
		from, to byte
		now, due uint32
	}{
		{0, 2, 5, 7}, {16, 0, 5, 6}, {0, 0, 5, 6}, {0, 16, 5, 6}, {19, 0, 0, 1}, {20, 1, 0, 1}, {20, 0, 0, 2}, {31, 3, 9, 10}, {31, 16, 9, 11}, {1, 3, 9, 11},
		{0, 2, 1<<32 - 4, 1<<32 - 2}, {0, 2, 1<<32 - 3, 1<<32 - 1}, {0, 2, 1<<32 - 2, 1<<32 - 1}, {0, 2, 1<<32 - 1, 1<<32 - 1},
		{0, 0, 1<<32 - 3, 1<<32 - 2}, {0, 0, 1<<32 - 2, 1<<32 - 1}, {0, 0, 1<<32 - 1, 1<<32 - 1},
	} {
		b := plain(c.from, c.to)
		l, ok := lay(t, nil, b, c.now)
		if !ok || len(l) != 1 || l[0].From != c.from || l[0].To != c.to || l[0].Due != c.due || !bytes.Equal(l[0].Bytes, b) {
			t.Errorf("from %d to %d at %d: %v %t", c.from, c.to, c.now, l, ok)
		}
	}
}

// Each node beside each: 20 stand somewhere, and are as far apart as plane says.
func TestLayBetweenAllNodes(t *testing.T) {
	was := due(4, 2)
	done := 0
	for from := range 256 {
		for to := range 256 {
			b := plain(byte(from), byte(to))
			l, ok := lay(t, was, b, 100)
			if !ok {
				continue
			}
			done++
			a, _ := plane.Spot(from)
			if from >= 16 {
				a, _ = plane.Spot((from - 16) / 4)
			}
			z, _ := plane.Spot(to)
			if to >= 16 {
				z, _ = plane.Spot((to - 16) / 4)
			}
			if n, _ := plane.Far(a, z); l[2].Due != uint32(101+n) {
				t.Fatalf("from %d to %d: due at %d", from, to, l[2].Due)
			}
		}
	}
	if done != 400 {
		t.Errorf("there are %d ways", done)
	}
}

func TestLayAtAnyTick(t *testing.T) {
	d := drawer(6)
	for _, edge := range []uint32{0, 1, 255, 1 << 8, 1<<15 - 1, 1 << 16, 1<<31 - 1, 1 << 31, 1<<32 - 1} {
		for by := range uint32(9) {
			for _, to := range []byte{0, 1, 2, 3, 16, 31} {
				if l, ok := lay(t, nil, d.packet(0, to), edge+by-4); !ok || l[0].Due < edge+by-4 {
					t.Fatalf("at %d to %d: %v %t", edge+by-4, to, l, ok)
				}
			}
		}
	}
}

// What is laid is the packet's bytes as they are, of every kind and length.
func TestLayAllPackets(t *testing.T) {
	d := drawer(7)
	for range 500 {
		from, to := d.node(), d.node()
		if _, ok := lay(t, d.parcels(d.below(5)), d.packet(from, to), 7); !ok {
			t.Fatalf("a packet from %d to %d isn't laid", from, to)
		}
	}
	for kind := range 256 {
		x := api.Packet{From: 1, To: 17, Kind: byte(kind)}
		b := plain(1, 17)
		b[9] = byte(kind)
		_, ok := lay(t, nil, b, 7)
		if _, put := wire.PutPacket(x); ok != put {
			t.Errorf("of the kind %d: %t", kind, ok)
		}
	}
	long := greatest(3, 30)
	if l, ok := lay(t, nil, long, 7); !ok || !bytes.Equal(l[0].Bytes, long) || len(long) < 5000 {
		t.Errorf("the longest packet: %t, of %d bytes", ok, len(long))
	}
}

func TestLayNoPackets(t *testing.T) {
	was := due(9, 8, 7)
	for i, b := range strange() {
		if l, ok := lay(t, was, b, 5); ok || !sameBag(l, was) {
			t.Errorf("the bytes %d: %v %t", i, l, ok)
		}
	}
}

// A byte less, more, or another one: laid is what still is a packet, and goes where its bytes say.
func TestLayOtherBytes(t *testing.T) {
	d := drawer(8)
	good := d.packet(2, 18)
	for i := range good {
		if _, ok := lay(t, nil, good[:i], 3); ok {
			t.Fatalf("the first %d bytes are laid", i)
		}
		lay(t, nil, slices.Delete(slices.Clone(good), i, i+1), 3)
		lay(t, nil, slices.Insert(slices.Clone(good), i, byte(d.below(256))), 3)
		for _, by := range []byte{1, 2, 4, 8, 16, 32, 64, 128, 255} {
			other := slices.Clone(good)
			other[i] ^= by
			lay(t, nil, other, 3)
		}
	}
	for range 2000 {
		lay(t, nil, d.text(d.below(200)), 3)
	}
}

// A bag has room for 64; what stands in it is left as it is, whatever it is.
func TestLayIntoAnyBag(t *testing.T) {
	d := drawer(9)
	for n := range 70 {
		was := d.parcels(n)
		l, ok := lay(t, was, d.packet(d.node(), d.node()), uint32(d.below(1000)))
		if ok != (n < 64) || len(l) != min(n+1, max(64, n)) {
			t.Errorf("into a bag of %d: %d %t", n, len(l), ok)
		}
	}
	l, ok := []api.Parcel(nil), true
	for n := 0; ok; n++ {
		if l, ok = lay(t, l, plain(0, 2), uint32(n)); ok != (n < 64) {
			t.Fatalf("the packet %d: %t", n, ok)
		}
	}
	if len(l) != api.MaxBag {
		t.Errorf("there lie %d", len(l))
	}
}

// What may be wrong, each beside each: no packet, no spot of the one node or the other, no room.
func TestLayAllThatMayBeWrong(t *testing.T) {
	d := drawer(10)
	for wrong := range 16 {
		from, to, was := byte(1), byte(20), d.parcels(63)
		if wrong&1 != 0 {
			from = 4
		}
		if wrong&2 != 0 {
			to = 32
		}
		if wrong&4 != 0 {
			was = d.parcels(64)
		}
		b := d.packet(from, to)
		if wrong&8 != 0 {
			b = b[1:]
		}
		l, ok := lay(t, was, b, 5)
		if ok != (wrong == 0) || !ok && !sameBag(l, was) {
			t.Errorf("with %04b wrong: %t", wrong, ok)
		}
	}
}

// Two that are laid lie one behind the other, also where the later one is due first.
func TestLayBehind(t *testing.T) {
	l, _ := bag.Lay(nil, plain(0, 2), 5)
	l, _ = bag.Lay(l, plain(0, 16), 5)
	l, _ = bag.Lay(l, plain(0, 2), 1)
	if d := dues(l); !slices.Equal(d, []uint32{7, 6, 3}) {
		t.Errorf("due at %v", d)
	}
}
