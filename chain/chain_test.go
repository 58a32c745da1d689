package chain_test

import (
	"encoding/hex"
	"slices"
	"testing"

	"missive/api"
	"missive/chain"
	"missive/suite"
)

// numbers are such at which a row may stand, up to the greatest one.
var numbers = []uint16{0, 1, 2, 127, 128, 255, 256, 257, 32767, 32768, 65279, 65533, 65534, 65535}

// keys are some that are alike but for an end, and drawn ones.
func keys() []api.Key {
	d := drawer(17)
	return []api.Key{{}, {1}, {31: 1}, {255}, d.key(), d.key(), named(1), named(2)}
}

// What another program reckons, with the labels written out.
func TestReckonedElsewhere(t *testing.T) {
	key := func(text string) api.Key {
		b, err := hex.DecodeString(text)
		if err != nil {
			t.Fatal(err)
		}
		return api.Key(b)
	}
	s, root, shared := suite.Real(), api.Key{}, api.Key{}
	for i := range root {
		root[i], shared[i] = byte(i), byte(100+i)
	}
	next, row, ok := chain.Root(s, root, shared)
	if !ok || next != key("eeba14bcb387908c57f38f74af6f8ecaf30b7538abe4455fdcaf55cbc43001f1") || row != key("9db86419b4ae27ca5c886a8c674fc6f352cf67673f6a03eba31cf74725cd502c") {
		t.Errorf("Root: %x %x %t", next, row, ok)
	}
	c, letter, e := chain.Next(s, api.Chain{Key: root, N: 258})
	if e != api.OK || letter != key("d22bb6bd42dff3cd57723092e71a9fb2f0a8a176e569e32bf0eda6fac0c5ac93") || c != (api.Chain{Key: key("579fce707544252d8308138f328dec546d19b9016c16cbd9311cc679a3e9fc60"), N: 259}) {
		t.Errorf("Next: %v %x %d", c, letter, e)
	}
}

// P17.1

func TestRoot(t *testing.T) {
	for _, a := range askers(t) {
		for range 2 {
			for _, root := range keys() {
				for _, shared := range keys() {
					next, row, ok := a.root(root, shared)
					if !ok || next == row || next == (api.Key{}) || row == (api.Key{}) {
						t.Fatalf("Root: %x %x %t", next, row, ok)
					}
				}
			}
		}
		a.each()
	}
}

func TestRootsAreUnlike(t *testing.T) {
	for _, a := range askers(t) {
		seen := map[api.Key]bool{}
		for _, root := range keys() {
			for _, shared := range keys() {
				next, row, _ := a.root(root, shared)
				if seen[next] || seen[row] {
					t.Fatalf("Root(%x, %x) answers a key that another one answered", root, shared)
				}
				seen[next], seen[row] = true, true
			}
		}
	}
}

func TestRootInAFullTable(t *testing.T) {
	one, two := api.Key{1}, api.Key{2}
	for room := range 4 {
		a := nearlyFull(t, room)
		next, row, ok := a.root(one, two)
		if ok != (room >= 2) || ok != (next != api.Key{}) || ok != (row != api.Key{}) {
			t.Fatalf("Root with room for %d terms: %x %x %t", room, next, row, ok)
		}
		if left := api.MaxTerms - a.s.Terms().Len(); left != max(room-2, 0) {
			t.Fatalf("Root with room for %d terms leaves %d", room, left)
		}
		a.root(two, one)
		a.root(one, two)
		a.each()
	}
	// What was made ahead needs no room, and alone it doesn't do.
	for _, label := range []byte{'R', 'C'} {
		a := free(t)
		a.s.Mix(label, one[:], two[:])
		a.m.mix(label, one, two)
		a.root(two, one)
		a.fill(0)
		if _, _, ok := a.root(one, two); ok {
			t.Fatalf("Root of which only %c has been made, in a full table: true", label)
		}
		if _, _, ok := a.root(two, one); !ok {
			t.Fatal("Root that has been made, in a full table: false")
		}
	}
}

// P17.2

func TestNext(t *testing.T) {
	for _, a := range askers(t) {
		for range 2 {
			for _, key := range keys() {
				for _, n := range numbers[:len(numbers)-1] {
					c, letter, e := a.next(api.Chain{Key: key, N: n})
					a.is("Next", e, api.OK)
					if c.N != n+1 || c.Key == letter || c.Key == key || letter == key {
						t.Fatalf("Next of %x, %d: %v %x", key, n, c, letter)
					}
				}
			}
		}
		a.each()
	}
}

func TestNextOfTheLast(t *testing.T) {
	for _, a := range append(askers(t), nearlyFull(t, 0)) {
		for _, key := range keys() {
			_, _, e := a.next(api.Chain{Key: key, N: api.MaxCount})
			a.is("Next of the greatest number", e, api.ErrCount)
		}
	}
}

func TestALongRow(t *testing.T) {
	for _, a := range askers(t) {
		seen := map[api.Key]bool{}
		c := api.Chain{Key: api.Key{9}, N: 65335}
		for range 200 {
			behind, letter, e := a.next(c)
			a.is("Next", e, api.OK)
			if seen[letter] || seen[behind.Key] {
				t.Fatalf("Next of %v answers a key that was there", c)
			}
			seen[letter], seen[behind.Key] = true, true
			c = behind
		}
		_, _, e := a.next(c)
		a.is("Next behind the last one", e, api.ErrCount)
		a.each()
	}
}

func TestNextInAFullTable(t *testing.T) {
	c := api.Chain{Key: api.Key{1}, N: 65534}
	for room := range 4 {
		a := nearlyFull(t, room)
		_, _, e := a.next(c)
		if room < 2 {
			a.is("Next without room", e, api.ErrFull)
		} else {
			a.is("Next with room", e, api.OK)
		}
		if left := api.MaxTerms - a.s.Terms().Len(); left != max(room-2, 0) {
			t.Fatalf("Next with room for %d terms leaves %d", room, left)
		}
		a.next(c)
		a.next(api.Chain{Key: api.Key{2}})
		a.each()
	}
	for _, label := range []byte{'M', 'N'} {
		a := free(t)
		a.s.Mix(label, c.Key[:])
		a.m.mix(label, c.Key)
		a.next(api.Chain{Key: api.Key{2}})
		a.fill(0)
		_, _, e := a.next(c)
		a.is("Next of which only one has been made, in a full table", e, api.ErrFull)
		_, _, e = a.next(api.Chain{Key: api.Key{2}, N: 3})
		a.is("Next that has been made, in a full table", e, api.OK)
	}
}

// P17.3

func TestKeep(t *testing.T) {
	a := free(t)
	for n := range 16 {
		l, e := a.keep(kept(api.Key{1}, 5, n), api.Kept{Ratchet: api.Key{2}, N: 5, Key: api.Key{3}})
		a.is("Keep", e, api.OK)
		if len(l) != n+1 || l[n] != (api.Kept{Ratchet: api.Key{2}, N: 5, Key: api.Key{3}}) {
			t.Fatalf("Keep behind %d: %v", n, l)
		}
	}
	for _, n := range []int{16, 17, 18, 31, 32, 33, 64, 255, 256, 272, 1000} {
		_, e := a.keep(kept(api.Key{1}, 5, n), api.Kept{Ratchet: api.Key{1}, N: 4})
		a.is("Keep of one too many", e, api.ErrFull)
	}
	a.keep(nil, api.Kept{})
	a.keep([]api.Kept{}, api.Kept{})
	a.keep([]api.Kept{{N: 1}}, api.Kept{})
}

func TestKeepOfWhatIsThere(t *testing.T) {
	a := free(t)
	for _, n := range []int{1, 2, 5, 15, 16, 17, 40} {
		l := kept(api.Key{1}, 5, n)
		for i, x := range l {
			for _, key := range []api.Key{x.Key, {}, {9}, x.Ratchet} {
				_, e := a.keep(l, api.Kept{Ratchet: x.Ratchet, N: x.N, Key: key})
				a.is("Keep of what is there", e, api.ErrThere)
			}
			if _, e := a.keep(l, api.Kept{Ratchet: x.Ratchet, N: 4, Key: l[i].Key}); e == api.ErrThere {
				t.Fatal("a key that is alike isn't the letter's")
			}
		}
	}
}

func TestKeepTellsAllApart(t *testing.T) {
	a := free(t)
	d := drawer(2)
	x := api.Kept{Ratchet: d.key(), N: 40000, Key: d.key()}
	l := []api.Kept{{N: 40000}, x, {Ratchet: x.Ratchet}}
	for bit := range 256 {
		_, e := a.keep(l, api.Kept{Ratchet: turned(x.Ratchet, bit), N: x.N, Key: x.Key})
		a.is("Keep of another ratchet key's", e, api.OK)
	}
	for bit := range 16 {
		_, e := a.keep(l, api.Kept{Ratchet: x.Ratchet, N: x.N ^ 1<<bit, Key: x.Key})
		a.is("Keep of another number", e, api.OK)
	}
	_, e := a.keep(l, x)
	a.is("Keep of what is there", e, api.ErrThere)
	_, e = a.keep(l, api.Kept{})
	a.is("Keep of zeros", e, api.OK)
}

func TestTake(t *testing.T) {
	a := free(t)
	for _, n := range []int{0, 1, 2, 3, 15, 16, 17, 40, 1000} {
		l := kept(api.Key{1}, 5, n)
		for i, x := range l {
			m, key, ok := a.take(l, x.Ratchet, x.N)
			if !ok || key != x.Key || len(m) != n-1 || !slices.Equal(m[:i], l[:i]) || !slices.Equal(m[i:], l[i+1:]) {
				t.Fatalf("Take of the place %d of %d: %v %x %t", i, n, m, key, ok)
			}
		}
		for _, k := range []uint16{0, 4, 5 + uint16(n), 65535} {
			if m, key, ok := a.take(l, api.Key{1}, k); ok || key != (api.Key{}) || !slices.Equal(m, l) {
				t.Fatalf("Take of what isn't there: %v %x %t", m, key, ok)
			}
		}
		if _, _, ok := a.take(l, api.Key{2}, 5); ok {
			t.Fatal("Take of another ratchet key's")
		}
	}
}

func TestTakeTellsAllApart(t *testing.T) {
	a := free(t)
	d := drawer(3)
	x := api.Kept{Ratchet: d.key(), N: 40000, Key: d.key()}
	l := []api.Kept{{N: 40000, Key: d.key()}, {Ratchet: x.Ratchet, Key: d.key()}, x, {Ratchet: d.key(), N: 1, Key: x.Key}}
	for bit := range 256 {
		if _, _, ok := a.take(l, turned(x.Ratchet, bit), x.N); ok {
			t.Fatalf("Take of another ratchet key's, the bit %d", bit)
		}
	}
	for bit := range 16 {
		if _, _, ok := a.take(l, x.Ratchet, x.N^1<<bit); ok {
			t.Fatalf("Take of another number, the bit %d", bit)
		}
	}
	if _, key, ok := a.take(l, x.Ratchet, x.N); !ok || key != x.Key {
		t.Fatal("Take of what is there")
	}
}

// A list may have a key twice, if somebody made it so; and a key may be zeros.
func TestTakeOfTheFirst(t *testing.T) {
	a := free(t)
	x, y, z := api.Kept{N: 7, Key: api.Key{1}}, api.Kept{N: 7, Key: api.Key{2}}, api.Kept{N: 8}
	for _, l := range [][]api.Kept{{x, y}, {y, x}, {z, x, y}, {x, z, y}, {x, y, z}, {x, x}, {y, z, x, x}} {
		for l := l; ; {
			m, key, ok := a.take(l, api.Key{}, 7)
			if !ok {
				break
			}
			first := slices.IndexFunc(l, func(x api.Kept) bool { return x.N == 7 })
			if key != l[first].Key || len(m) != len(l)-1 {
				t.Fatalf("Take of %v: %v %x", l, m, key)
			}
			l = m
		}
	}
	if m, key, ok := a.take([]api.Kept{z}, api.Key{}, 8); !ok || key != (api.Key{}) || len(m) != 0 {
		t.Fatalf("Take of a key that is zeros: %v %x %t", m, key, ok)
	}
}

// P17.4

func TestSkip(t *testing.T) {
	for _, a := range askers(t) {
		for way := range 19 {
			for n := range 19 {
				for _, from := range []uint16{0, 1, 250, 65500, uint16(65535 - way)} {
					l := kept(api.Key{1}, 0, n)
					c, m, e := a.skip(api.Chain{Key: api.Key{4}, N: from}, api.Key{2}, from+uint16(way), l)
					if way+n > 16 {
						a.is("Skip of too many", e, api.ErrFar)
						continue
					}
					a.is("Skip", e, api.OK)
					if c.N != from+uint16(way) || len(m) != n+way || !slices.Equal(m[:n], l) {
						t.Fatalf("Skip of %d beside %d: %v %v", way, n, c, m)
					}
					for i, x := range m[n:] {
						if x.Ratchet != (api.Key{2}) || x.N != from+uint16(i) {
							t.Fatalf("Skip of %d beside %d: %v", way, n, m)
						}
					}
				}
			}
		}
		a.each()
	}
}

func TestSkipOfNothing(t *testing.T) {
	for _, a := range append(askers(t), nearlyFull(t, 0)) {
		for _, n := range numbers {
			for _, l := range [][]api.Kept{nil, {}, kept(api.Key{2}, n, 1), kept(api.Key{1}, 0, 16)} {
				was := a.m.count
				c, m, e := a.skip(api.Chain{Key: api.Key{1}, N: n}, api.Key{2}, n, l)
				a.is("Skip of nothing", e, api.OK)
				if c != (api.Chain{Key: api.Key{1}, N: n}) || !slices.Equal(m, l) || a.m.count != was {
					t.Fatalf("Skip of nothing: %v %v", c, m)
				}
			}
			_, _, e := a.skip(api.Chain{N: n}, api.Key{2}, n, kept(api.Key{1}, 0, 17))
			a.is("Skip of nothing beside too many", e, api.ErrFar)
		}
	}
}

func TestSkipBack(t *testing.T) {
	for _, a := range append(askers(t), nearlyFull(t, 0)) {
		for _, from := range numbers {
			for _, to := range numbers {
				for _, n := range []int{0, 1, 16, 17, 40} {
					was := a.m.count
					c, l := api.Chain{Key: api.Key{1}, N: from}, kept(api.Key{2}, to, n)
					row, m, e := a.skip(c, api.Key{2}, to, l)
					switch {
					case from > to:
						a.is("Skip back", e, api.ErrOld)
					case int(to)-int(from)+n > 16:
						a.is("Skip too far", e, api.ErrFar)
					default:
						continue
					}
					if row != c || !slices.Equal(m, l) || a.m.count != was {
						t.Fatalf("Skip from %d to %d beside %d: %v %v, and %d terms more", from, to, n, row, m, a.m.count-was)
					}
				}
			}
		}
	}
}

// A row can be gone to its end, where there is no next letter any more.
func TestSkipToTheEnd(t *testing.T) {
	for _, a := range askers(t) {
		c, l, e := a.skip(api.Chain{N: 65519}, api.Key{1}, api.MaxCount, nil)
		a.is("Skip to the end", e, api.OK)
		if c.N != api.MaxCount || len(l) != 16 || l[15].N != 65534 {
			t.Fatalf("Skip to the end: %v %v", c, l)
		}
		_, _, e = a.next(c)
		a.is("Next behind it", e, api.ErrCount)
	}
}

func TestSkipOverWhatIsThere(t *testing.T) {
	const from, to = 10, 15
	for _, a := range askers(t) {
		c := api.Chain{Key: api.Key{1}, N: from}
		for n := uint16(from - 2); n <= to+2; n++ {
			for at := range 4 {
				l := slices.Insert(kept(api.Key{3}, from, 3), at, api.Kept{Ratchet: api.Key{2}, N: n, Key: api.Key{5}})
				row, m, e := a.skip(c, api.Key{2}, to, l)
				if n < from || n >= to {
					a.is("Skip past what is kept", e, api.OK)
					continue
				}
				a.is("Skip over what is kept", e, api.ErrThere)
				if row != c || !slices.Equal(m, l) {
					t.Fatalf("Skip over what is kept: %v %v", row, m)
				}
				// Beside another ratchet key it is nothing.
				_, _, e = a.skip(c, api.Key{4}, to, l)
				a.is("Skip of another ratchet key's", e, api.OK)
				_, _, e = a.skip(c, api.Key{2}, 30, l)
				a.is("Skip too far, over what is kept", e, api.ErrFar)
			}
		}
	}
}

// What was made up to the key that is there stays, and that letter's two are the last ones.
func TestTermsOfSkipOverWhatIsThere(t *testing.T) {
	for n := range uint16(6) {
		a := free(t)
		_, _, e := a.skip(api.Chain{Key: api.Key{1}, N: 100}, api.Key{2}, 106, []api.Kept{{Ratchet: api.Key{2}, N: 100 + n}})
		a.is("Skip over what is kept", e, api.ErrThere)
		if got, want := a.s.Terms().Len(), 2*int(n+1); got != want {
			t.Fatalf("%d terms, want %d", got, want)
		}
		a.each()
	}
}

func TestSkipInAFullTable(t *testing.T) {
	c, l := api.Chain{Key: api.Key{1}, N: 100}, kept(api.Key{3}, 0, 2)
	for room := range 10 {
		a := nearlyFull(t, room)
		row, m, e := a.skip(c, api.Key{2}, 104, l)
		if room >= 8 {
			a.is("Skip with room", e, api.OK)
			continue
		}
		a.is("Skip without room", e, api.ErrFull)
		if row != c || !slices.Equal(m, l) || a.s.Terms().Len() != api.MaxTerms {
			t.Fatalf("Skip with room for %d terms: %v %v, and %d terms", room, row, m, a.s.Terms().Len())
		}
		// So far as the terms go it can be done.
		_, _, e = a.skip(c, api.Key{2}, 100+uint16(room/2), l)
		a.is("Skip over what was made", e, api.OK)
		a.each()
	}
	// Whichever comes first on the way: the key that is there, or the table's end.
	for room := range 10 {
		a := nearlyFull(t, room)
		_, _, e := a.skip(c, api.Key{2}, 104, []api.Kept{{Ratchet: api.Key{2}, N: 102}})
		if room < 6 {
			a.is("Skip without room", e, api.ErrFull)
		} else {
			a.is("Skip over what is there", e, api.ErrThere)
		}
	}
}

// P17.5

// letters are the keys of a row from its beginning on, by Next alone.
func (a asker) letters(c api.Chain, ratchet api.Key, n int) (api.Chain, []api.Kept) {
	a.Helper()
	var l []api.Kept
	for range n {
		behind, letter, e := a.next(c)
		a.is("Next", e, api.OK)
		l = append(l, api.Kept{Ratchet: ratchet, N: c.N, Key: letter})
		c = behind
	}
	return c, l
}

func TestRowsCutInTwo(t *testing.T) {
	for _, a := range askers(t) {
		for _, from := range []uint16{0, 250, 65500} {
			c := api.Chain{Key: api.Key{1}, N: from}
			for n := range 17 {
				end, all := a.letters(c, api.Key{2}, n)
				for cut := range n + 1 {
					row, l, e := a.skip(c, api.Key{2}, from+uint16(cut), nil)
					a.is("Skip up to the cut", e, api.OK)
					row, l, e = a.skip(row, api.Key{2}, from+uint16(n), l)
					a.is("Skip behind it", e, api.OK)
					if row != end || !slices.Equal(l, all) {
						t.Fatalf("a row of %d, cut at %d: %v %v, want %v %v", n, cut, row, l, end, all)
					}
				}
			}
		}
	}
}

// A row of more letters than can be kept: what was kept is taken between.
func TestTakenOnce(t *testing.T) {
	for _, a := range askers(t) {
		c, d := api.Chain{Key: api.Key{1}, N: 3}, drawer(5)
		_, all := a.letters(c, api.Key{2}, 48)
		var l []api.Kept
		var e api.Errno
		for part := range 3 {
			c, l, e = a.skip(c, api.Key{2}, uint16(3+16*(part+1)), l)
			a.is("Skip", e, api.OK)
			if !slices.Equal(l, all[16*part:16*(part+1)]) {
				t.Fatalf("the part %d: %v", part, l)
			}
			for len(l) > 0 {
				x := l[d.below(len(l))]
				m, key, ok := a.take(l, x.Ratchet, x.N)
				if !ok || key != all[x.N-3].Key {
					t.Fatalf("Take of %d: %x %t", x.N, key, ok)
				}
				if _, _, again := a.take(m, x.Ratchet, x.N); again {
					t.Fatalf("the key of %d is taken twice", x.N)
				}
				l = m
			}
		}
	}
}

// Rows of calls, drawn: each answer is held against the model's.
func TestDrawnRows(t *testing.T) {
	for row := range 60 {
		for _, a := range askers(t) {
			a.drawn(drawer(row))
		}
		// And one whose table becomes full between.
		if row < 6 {
			nearlyFull(t, 20*row).drawn(drawer(row))
		}
	}
}

func (a asker) drawn(d drawer) {
	a.Helper()
	ratchets := []api.Key{{1}, {2}, {31: 1}}
	c, root := api.Chain{Key: d.key(), N: uint16(d.below(3) * 32750)}, d.key()
	var l []api.Kept
	for range 60 {
		ratchet := ratchets[d.below(3)]
		switch d.below(6) {
		case 0:
			next, key, ok := a.root(root, ratchet)
			if ok {
				root, c = next, api.Chain{Key: key, N: c.N}
			}
		case 1:
			if behind, _, e := a.next(c); e == api.OK {
				c = behind
			}
		case 2:
			if m, e := a.keep(l, api.Kept{Ratchet: ratchet, N: c.N + uint16(d.below(4)), Key: d.key()}); e == api.OK {
				l = m
			}
		case 3:
			if len(l) > 0 {
				x := l[d.below(len(l))]
				l, _, _ = a.take(l, x.Ratchet, x.N)
			}
		case 4:
			l, _, _ = a.take(l, ratchet, c.N-uint16(d.below(6)))
		case 5:
			c, l, _ = a.skip(c, ratchet, c.N+uint16(d.below(8)-1), l)
		}
	}
	a.each()
}

func TestExamples(t *testing.T) {
	for _, a := range askers(t) {
		two, c := api.Chain{N: 2}, api.Chain{}
		_, all := a.letters(two, api.Key{1}, 2)
		c, l, e := a.skip(two, api.Key{1}, 4, nil)
		a.is("Skip from 2 to 4", e, api.OK)
		if c.N != 4 || !slices.Equal(l, all) {
			t.Errorf("Skip from 2 to 4: %v %v", c, l)
		}
		_, _, e = a.skip(two, api.Key{1}, 1, nil)
		a.is("Skip to 1", e, api.ErrOld)
		_, e = a.keep(kept(api.Key{1}, 0, 16), api.Kept{N: 16})
		a.is("Keep of the 17th", e, api.ErrFull)
	}
}
