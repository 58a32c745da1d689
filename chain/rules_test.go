package chain_test

import (
	"math"
	"slices"
	"testing"

	"missive/api"
	"missive/chain"
	"missive/suite"
)

// Rules that hold everywhere

// room is the list with spare room behind it, and the whole of it.
func room(l []api.Kept) (short, whole []api.Kept) {
	whole = append(slices.Clone(l), kept(api.Key{77}, 7000, 30)...)
	return whole[:len(l):len(whole)], whole
}

// listed are the calls that take a list and answer one, each as it is done and as it is refused.
func listed(s suite.Suite) map[string]func(l []api.Kept) []api.Kept {
	skip := func(from, to uint16) func(l []api.Kept) []api.Kept {
		return func(l []api.Kept) []api.Kept {
			_, m, _ := chain.Skip(s, api.Chain{Key: api.Key{8}, N: from}, api.Key{2}, to, l)
			return m
		}
	}
	take := func(ratchet api.Key, n uint16) func(l []api.Kept) []api.Kept {
		return func(l []api.Kept) []api.Kept {
			m, _, _ := chain.Take(l, ratchet, n)
			return m
		}
	}
	return map[string]func(l []api.Kept) []api.Kept{
		"Keep": func(l []api.Kept) []api.Kept {
			m, _ := chain.Keep(l, api.Kept{Ratchet: api.Key{9}, N: 9})
			return m
		},
		"Keep of what may be there": func(l []api.Kept) []api.Kept {
			m, _ := chain.Keep(l, api.Kept{Ratchet: api.Key{1}})
			return m
		},
		"Take of the first":          take(api.Key{1}, 0),
		"Take of the second":         take(api.Key{1}, 1),
		"Take of the fourth":         take(api.Key{1}, 3),
		"Take of the last of 16":     take(api.Key{1}, 15),
		"Take of nothing":            take(api.Key{9}, 0),
		"Take of what lies behind":   take(api.Key{77}, 7000),
		"Skip of nothing":            skip(5, 5),
		"Skip of one":                skip(5, 6),
		"Skip of four":               skip(5, 9),
		"Skip back":                  skip(5, 4),
		"Skip too far":               skip(5, 22),
		"Skip over what may be kept": skip(0, 3),
	}
}

// lists are of some lengths; in each second one what Skip keeps from 0 to 3 is there at the end.
func lists() [][]api.Kept {
	all := [][]api.Kept{nil, {}}
	for _, n := range []int{0, 1, 2, 4, 12, 15, 16, 17, 20} {
		l := kept(api.Key{1}, 0, n)
		all = append(all, l, append(slices.Clone(l), api.Kept{Ratchet: api.Key{2}, N: 2, Key: api.Key{6}}))
	}
	return all
}

// What is handed in, and its spare room, is left as it was; and neither kept nor shared.
func TestListsAreLeft(t *testing.T) {
	for _, s := range []suite.Suite{suite.Real(), suite.Free()} {
		for what, call := range listed(s) {
			for _, list := range lists() {
				l, whole := room(list)
				was := slices.Clone(whole)
				m := call(l)
				if !slices.Equal(whole, was) {
					t.Fatalf("%s, of %d: the list, or its spare room, is changed", what, len(l))
				}
				want := slices.Clone(m)
				for i := range whole {
					whole[i] = api.Kept{N: 12345}
				}
				if !slices.Equal(m, want) {
					t.Fatalf("%s, of %d: the answer shares memory with the list", what, len(l))
				}
			}
		}
	}
}

// An answer may be written over, and put behind.
func TestAnswersAreNewMemory(t *testing.T) {
	for _, s := range []suite.Suite{suite.Real(), suite.Free()} {
		for what, call := range listed(s) {
			for _, list := range lists() {
				l, whole := room(list)
				was := slices.Clone(whole)
				one, two := call(l), call(l)
				want := slices.Clone(two)
				for i := range one[:cap(one)] {
					one[:cap(one)][i] = api.Kept{N: 12345}
				}
				for range 40 {
					one = append(one, api.Kept{N: 12345})
				}
				if !slices.Equal(whole, was) {
					t.Fatalf("%s, of %d: the list shares memory with the answer", what, len(l))
				}
				if !slices.Equal(two, want) || !slices.Equal(call(l), want) {
					t.Fatalf("%s, of %d: two answers share memory", what, len(l))
				}
			}
		}
	}
}

// Nothing lies in an answer's spare room that was taken out of the list.
func TestNothingLiesBehind(t *testing.T) {
	for n := range 20 {
		l := kept(api.Key{1}, 0, n)
		for _, x := range l {
			m, _, _ := chain.Take(l, x.Ratchet, x.N)
			for _, y := range m[len(m):cap(m)] {
				if y != (api.Kept{}) {
					t.Fatalf("behind a list of %d there is %v", n-1, y)
				}
			}
		}
	}
}

// The same done twice answers the same; in the free suite nothing more is made by it.
func TestTheSameAgain(t *testing.T) {
	again := askers(t)
	for i, a := range askers(t) {
		one := a.told()
		if two := again[i].told(); !slices.Equal(one, two) {
			t.Errorf("the same done twice answers %v and %v", one, two)
		}
		was := a.m.count
		if two := a.told(); !slices.Equal(one, two) || a.m.count != was {
			t.Errorf("done once more it answers %v, want %v, and %d terms more", two, one, a.m.count-was)
		}
	}
}

// told is what a row of calls answers.
func (a asker) told() []api.Kept {
	root, key, _ := a.root(api.Key{1}, api.Key{2})
	c, letter, _ := a.next(api.Chain{Key: key, N: 40})
	l, _ := a.keep(nil, api.Kept{Ratchet: root, N: 40, Key: letter})
	c, l, _ = a.skip(c, api.Key{3}, 45, l)
	l, letter, _ = a.take(l, api.Key{3}, 43)
	return append(l, api.Kept{Ratchet: c.Key, N: c.N, Key: letter}, api.Kept{Key: root})
}

// The suites don't hang together.
func TestSuitesAside(t *testing.T) {
	a, b := free(t), free(t)
	b.root(api.Key{9}, api.Key{9})
	a.skip(api.Chain{}, api.Key{1}, 5, nil)
	b.terms()
	b.skip(api.Chain{}, api.Key{1}, 5, nil)
	a.terms()
	// The zero value is the real one.
	zero := asker{t, suite.Suite{}, &model{}}
	zero.root(api.Key{1}, api.Key{2})
	zero.next(api.Chain{Key: api.Key{1}})
	zero.skip(api.Chain{}, api.Key{1}, 5, nil)
}

// Keys are any bytes: names of terms too, of those that are there and of those that come.
func TestNamesAsKeys(t *testing.T) {
	a := free(t)
	for _, n := range []int{0, 1, 2, 3, 9, math.MaxUint16, math.MaxInt32 - 1} {
		a.root(named(n), named(n+1))
		a.root(named(n), named(n))
		a.next(api.Chain{Key: named(n)})
		a.skip(api.Chain{Key: named(n), N: 3}, named(n), 6, []api.Kept{{Ratchet: named(n), N: 2, Key: named(n)}})
	}
	next := named(a.m.count + 1)
	a.next(api.Chain{Key: next})
	a.each()
}
