package bag_test

import (
	"math"
	"slices"
	"testing"

	"missive/api"
	"missive/bag"
)

// P24.3

func TestRipeExamples(t *testing.T) {
	for _, c := range []struct {
		due  []uint32
		now  uint32
		want int
	}{
		{nil, 0, -1}, {nil, 9, -1}, {[]uint32{5}, 4, -1}, {[]uint32{5}, 5, 0}, {[]uint32{5}, 6, 0}, {[]uint32{0}, 0, 0},
		{[]uint32{7, 6}, 5, -1}, {[]uint32{7, 6}, 6, 1}, {[]uint32{7, 6}, 7, 1}, {[]uint32{7, 6}, 9, 1}, {[]uint32{6, 7}, 6, 0}, {[]uint32{6, 7}, 9, 0},
		{[]uint32{6, 6, 6}, 6, 0}, {[]uint32{7, 6, 6}, 9, 1}, {[]uint32{9, 6, 7, 6, 5}, 8, 4}, {[]uint32{9, 6, 7, 6, 5}, 4, -1}, {[]uint32{9, 3, 7, 3, 5}, 4, 1},
		{[]uint32{math.MaxUint32}, math.MaxUint32, 0}, {[]uint32{math.MaxUint32}, math.MaxUint32 - 1, -1}, {[]uint32{math.MaxUint32, 0}, math.MaxUint32, 1}, {[]uint32{1 << 31, 1<<31 - 1}, 1 << 31, 1},
		{[]uint32{1 << 31, 1<<31 - 1}, 1<<31 - 1, 1}, {[]uint32{1<<31 - 1, 1 << 31}, 1 << 31, 0}, {[]uint32{1 << 31}, 1<<31 - 1, -1}, {[]uint32{math.MaxUint32, math.MaxUint32}, math.MaxUint32, 0},
	} {
		if i := ripest(t, due(c.due...), c.now); i != c.want {
			t.Errorf("due at %v, at %d: %d, want %d", c.due, c.now, i, c.want)
		}
	}
}

// All bags of up to six parcels that are due at one of four ticks, at each tick about these; near 0, in the middle, at the end.
func TestRipeOfAllSmallBags(t *testing.T) {
	for _, begin := range []uint32{0, 1<<31 - 2, 1<<32 - 4} {
		for n := range 7 {
			for code := range 1 << (2 * n) {
				ticks := make([]uint32, n)
				for i := range ticks {
					ticks[i] = begin + uint32(code>>(2*i)&3)
				}
				l := due(ticks...)
				for by := range uint32(6) {
					ripest(t, l, begin+by-1)
				}
			}
		}
	}
}

// Bags of any number of parcels of any fields: what they are else doesn't matter.
func TestRipeOfDrawnBags(t *testing.T) {
	d := drawer(12)
	for n := range 90 {
		l := d.parcels(n)
		for _, p := range l {
			for by := range uint32(3) {
				ripest(t, l, p.Due+by-1)
			}
		}
		for _, now := range []uint32{0, 1, 1 << 31, math.MaxUint32} {
			ripest(t, l, now)
		}
	}
}

// Each place of a full bag may be the one that is due first.
func TestRipeAtEachPlace(t *testing.T) {
	for n := 1; n <= 66; n++ {
		for i := range n {
			ticks := slices.Repeat([]uint32{9}, n)
			ticks[i] = 8
			for now, want := range map[uint32]int{7: -1, 8: i, 9: i} {
				if got := ripest(t, due(ticks...), now); got != want {
					t.Fatalf("the place %d of %d at %d: %d", i, n, now, got)
				}
			}
		}
	}
}

// P24.4

// empty takes all that is ripe: it comes by rising Due, and what is left isn't due yet.
func empty(t *testing.T, l []api.Parcel, now uint32) (left, came []api.Parcel) {
	t.Helper()
	for {
		i := ripest(t, l, now)
		if i < 0 {
			break
		}
		rest, p, ok := take(t, l, i)
		if !ok || p.Due > now || len(came) > 0 && p.Due < came[len(came)-1].Due {
			t.Fatalf("there comes %v, at %d, behind %v", p, now, dues(came))
		}
		l, came = rest, append(came, p)
	}
	for _, p := range l {
		if p.Due <= now {
			t.Fatalf("%v is left at %d", p, now)
		}
	}
	return l, came
}

func TestByRisingDue(t *testing.T) {
	for _, begin := range []uint32{0, 1<<31 - 2, 1<<32 - 4} {
		for n := range 6 {
			for code := range 1 << (2 * n) {
				ticks := make([]uint32, n)
				for i := range ticks {
					ticks[i] = begin + uint32(code>>(2*i)&3)
				}
				was := due(ticks...)
				left, came := empty(t, was, begin+2)
				want := slices.Clone(was)
				slices.SortStableFunc(want, func(a, b api.Parcel) int { return int(int64(a.Due) - int64(b.Due)) })
				if !sameBag(came, want[:len(came)]) || len(left)+len(came) != n {
					t.Fatalf("of %v come %v", ticks, dues(came))
				}
			}
		}
	}
}

// At each tick all that is ripe comes, while others are laid: all comes just when it is due.
func TestAllComesWhenItIsDue(t *testing.T) {
	d := drawer(14)
	for _, begin := range []uint32{0, 1<<31 - 9, 1<<32 - 40} {
		var l []api.Parcel
		laid, heard := 0, 0
		for now := begin; now < begin+30; now++ {
			left, came := empty(t, l, now)
			for _, p := range came {
				if p.Due != now {
					t.Fatalf("what is due at %d comes at %d", p.Due, now)
				}
			}
			l, heard = left, heard+len(came)
			for range d.below(9) {
				l, _ = lay(t, l, d.packet(d.node(), d.node()), now)
				laid++
			}
		}
		if _, came := empty(t, l, begin+31); heard+len(came) != laid || laid < 50 {
			t.Errorf("of %d there came %d", laid, heard+len(came))
		}
	}
}

// net is a bag, and what should be on the way in it: of each packet's bytes how many there are, and as what it was laid.
type net struct {
	*testing.T
	*drawer
	l     []api.Parcel
	known map[string]api.Parcel
	many  map[string]int
	count int
}

// lays lays a packet like no other one, and then writes over its bytes.
func (n *net) lays(now uint32) {
	n.count++
	b := tagged(n.count, n.node(), n.node())
	x, want := string(b), len(n.l) < 64
	expected, _ := laid(nil, []byte(x), now)
	l, ok := bag.Lay(n.l, b, now)
	if ok != want {
		n.Fatalf("Lay on %d: %t", len(n.l), ok)
	}
	if n.l = l; ok {
		n.known[x], n.many[x] = expected[0], 1
	}
	clear(b)
}

func (n *net) doubles(i int) {
	l, ok := bag.Double(n.l, i)
	if n.l = l; ok {
		n.many[string(l[i].Bytes)]++
	}
}

// takes takes a parcel, which must be one that was laid, as it was, and then writes over its bytes.
func (n *net) takes(i int) {
	l, p, ok := bag.Take(n.l, i)
	if n.l = l; ok {
		n.came(p)
		clear(p.Bytes)
	}
}

func (n *net) came(p api.Parcel) {
	x := string(p.Bytes)
	if n.many[x] < 1 || !same(n.known[x], p) {
		n.Fatalf("%v is taken, of which %d are known, as %v", p, n.many[x], n.known[x])
	}
	n.many[x]--
}

// run does so many things, and writes over all that was handed out ahead of each.
func (n *net) run(now uint32, steps int) {
	for range steps {
		was := n.l
		switch n.below(8) {
		case 0, 1, 2:
			n.lays(now)
		case 3:
			n.doubles(n.below(len(n.l) + 1))
		case 4:
			n.takes(n.below(len(n.l) + 1))
		case 5, 6:
			n.takes(bag.Ripe(n.l, now))
		case 7:
			now = max(now, now+1)
			continue
		}
		for _, p := range was {
			clear(p.Bytes)
		}
		clear(was)
	}
}

// Drawn runs in which packets are laid, lost, doubled, and brought in any order and by Ripe.
func TestNothingIsAnotherOne(t *testing.T) {
	d := drawer(13)
	for i := range 60 {
		n := &net{T: t, drawer: &d, known: map[string]api.Parcel{}, many: map[string]int{}}
		n.run([]uint32{0, 1<<31 - 20, 1<<32 - 30}[i%3], 100+20*i)
		for _, p := range n.l {
			n.came(p)
		}
		for x, many := range n.many {
			if many != 0 {
				t.Fatalf("of %v there are %d gone", n.known[x], many)
			}
		}
		if n.count < 25 {
			t.Fatalf("there were %d laid", n.count)
		}
	}
}
