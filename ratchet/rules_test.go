package ratchet_test

import (
	"bytes"
	"math"
	"slices"
	"testing"

	"missive/api"
	"missive/ratchet"
	"missive/suite"
)

// Rules that hold everywhere

// answer is what a call answers, all of it.
type answer struct {
	x api.Session
	h api.Header
	b []byte
	e api.Errno
}

func (a answer) copied() answer {
	a.x, a.b = copied(a.x), append([]byte(nil), a.b...)
	return a
}

func (a answer) is(b answer) bool {
	return same(a.x, b.x) && a.h == b.h && bytes.Equal(a.b, b.b) && a.e == b.e
}

// call is one of the package's, of a session and of bytes.
type call struct {
	what string
	x    api.Session
	b    []byte
	do   func(x api.Session, b []byte) answer
}

// calls are some of each, done and refused.
func calls(t *testing.T, s suite.Suite) (l []call) {
	t.Helper()
	one := ratchet.Begin(s, api.Key{1}, api.Key{2}, api.Key{3})
	two := ratchet.Join(s, api.Key{1}, api.Key{2}, s.Public(one.Mine))
	seal := func(x api.Session, b []byte) answer {
		now, h, body, e := ratchet.Seal(s, x, run(9), b)
		return answer{now, h, body, e}
	}
	var hs []api.Header
	var bodies [][]byte
	for _, text := range []string{"a", "b", "c", "d"} {
		a := seal(one, []byte(text))
		one, hs, bodies = a.x, append(hs, a.h), append(bodies, a.b)
	}
	open := func(h api.Header) func(x api.Session, b []byte) answer {
		return func(x api.Session, b []byte) answer {
			now, plain, e := ratchet.Open(s, x, h, b)
			return answer{now, api.Header{}, plain, e}
		}
	}
	pack := func(x api.Session, _ []byte) answer {
		b, _ := ratchet.Pack(x)
		return answer{b: b}
	}
	unpack := func(_ api.Session, b []byte) answer {
		x, _ := ratchet.Unpack(b)
		return answer{x: x}
	}
	two.Kept = kept(api.Key{5}, 0, 2)
	behind := open(hs[2])(two, bodies[2]).x
	reply := seal(two, []byte("reply"))
	beginner := one
	beginner.Kept = kept(api.Key{5}, 0, 3)
	packed, _ := ratchet.Pack(behind)
	other := hs[1]
	other.Session[0]++
	return []call{
		{"Seal", beginner, []byte("text"), seal},
		{"Seal of an answer", two, []byte("text"), seal},
		{"Seal of too much", two, make([]byte, 1025), seal},
		{"Seal of no session", api.Session{Kept: two.Kept}, []byte("text"), seal},
		{"Open of the next one", two, bodies[0], open(hs[0])},
		{"Open over others", two, bodies[3], open(hs[3])},
		{"Open of the first kept one", behind, bodies[0], open(hs[0])},
		{"Open of the last kept one", behind, bodies[1], open(hs[1])},
		{"Open of a kept one, spoilt", behind, bodies[0], open(hs[1])},
		{"Open of an old one", behind, bodies[2], open(hs[2])},
		{"Open of another one's", two, bodies[1], open(other)},
		{"Open of an answer", beginner, reply.b, open(reply.h)},
		{"Open of an answer, spoilt", beginner, bodies[1], open(reply.h)},
		{"Pack", behind, nil, pack},
		{"Pack of too many", api.Session{Kept: kept(api.Key{1}, 0, 17)}, nil, pack},
		{"Unpack", api.Session{}, packed, unpack},
		{"Unpack of no session's", api.Session{}, packed[1:], unpack},
	}
}

// roomy is the call with spare room behind its list and its bytes, and both of these whole.
func (c call) roomy() (call, []api.Kept, []byte) {
	l := append(slices.Clone(c.x.Kept), kept(api.Key{77}, 7000, 30)...)
	b := append(slices.Clone(c.b), bytes.Repeat([]byte{7}, 1200)...)
	c.x.Kept, c.b = l[:len(c.x.Kept)], b[:len(c.b)]
	return c, l, b
}

// What is handed in, and its spare room, is left as it was; and neither kept nor shared.
func TestArgumentsAreLeft(t *testing.T) {
	for _, s := range []suite.Suite{suite.Real(), suite.Free()} {
		for _, c := range calls(t, s) {
			c, l, b := c.roomy()
			wasList, wasBytes, was := slices.Clone(l), slices.Clone(b), copied(c.x)
			got := c.do(c.x, c.b)
			if !slices.Equal(l, wasList) || !bytes.Equal(b, wasBytes) || !same(c.x, was) {
				t.Fatalf("%s: what is handed in is changed", c.what)
			}
			want := got.copied()
			for i := range l {
				l[i] = api.Kept{N: 12345}
			}
			for i := range b {
				b[i]++
			}
			if !got.is(want) {
				t.Fatalf("%s: the answer shares memory with what is handed in", c.what)
			}
			copy(l, wasList)
			copy(b, wasBytes)
			if again := c.do(c.x, c.b); !again.is(want) {
				t.Fatalf("%s: what is handed in is kept", c.what)
			}
		}
	}
}

// An answer may be written over, and put behind.
func TestAnswersAreNewMemory(t *testing.T) {
	for _, s := range []suite.Suite{suite.Real(), suite.Free()} {
		for _, c := range calls(t, s) {
			c, l, b := c.roomy()
			wasList, wasBytes := slices.Clone(l), slices.Clone(b)
			one, two := c.do(c.x, c.b), c.do(c.x, c.b)
			want := two.copied()
			for i := range one.x.Kept[:cap(one.x.Kept)] {
				one.x.Kept[:cap(one.x.Kept)][i] = api.Kept{N: 12345}
			}
			for i := range one.b[:cap(one.b)] {
				one.b[:cap(one.b)][i]++
			}
			for range 40 {
				one.x.Kept = append(one.x.Kept, api.Kept{N: 12345})
				one.b = append(one.b, 99)
			}
			if !slices.Equal(l, wasList) || !bytes.Equal(b, wasBytes) {
				t.Fatalf("%s: what is handed in shares memory with the answer", c.what)
			}
			if !two.is(want) || !c.do(c.x, c.b).is(want) {
				t.Fatalf("%s: two answers share memory", c.what)
			}
		}
	}
}

// Nothing that isn't the session's lies in its list's spare room: no key that was taken, or tried.
func TestNothingLiesBehind(t *testing.T) {
	for _, s := range []suite.Suite{suite.Real(), suite.Free()} {
		for _, c := range calls(t, s) {
			c, _, _ = c.roomy()
			l := c.do(c.x, c.b).x.Kept
			for _, k := range l[len(l):cap(l)] {
				if k != (api.Kept{}) {
					t.Fatalf("%s: behind the list there is %v", c.what, k)
				}
			}
		}
	}
}

// The same done twice answers the same, in another suite too; in the free suite nothing more is made by it.
func TestTheSameAgain(t *testing.T) {
	for _, s := range [][2]suite.Suite{{suite.Real(), suite.Real()}, {suite.Free(), suite.Free()}} {
		ones, twos := calls(t, s[0]), calls(t, s[1])
		for i, c := range ones {
			want := c.do(c.x, c.b)
			was := asker{T: t, s: s[0]}.count()
			if again := c.do(c.x, c.b); !again.is(want) || (asker{T: t, s: s[0]}).count() != was {
				t.Errorf("%s: done once more it answers %v, want %v", c.what, again, want)
			}
			if other := twos[i].do(twos[i].x, twos[i].b); !other.is(want) {
				t.Errorf("%s: in another suite it answers %v, want %v", c.what, other, want)
			}
		}
	}
}

// The zero value is the real suite.
func TestZeroSuite(t *testing.T) {
	a := asker{t, suite.Suite{}, model{suite.Real()}}
	a.talk(3).drawn(20)
}

// Keys are any bytes: names of terms too, of those that are there and of those that come.
func TestNamesAsKeys(t *testing.T) {
	a := termer(t)
	for _, n := range []int{0, 1, 2, 3, 9, 30, math.MaxUint16, math.MaxInt32 - 1} {
		for _, k := range []api.Key{named(n), named(a.count() + 1), named(a.count() + 2)} {
			x, y := a.begin(k, k, k), a.join(k, k, k)
			h, body := a.wrote(&x, k, "text")
			a.open(y, h, body)
			z := api.Session{Id: k, Root: k, Mine: k, Theirs: k, HasRecv: true, Recv: api.Chain{Key: k}, Send: api.Chain{Key: k}, First: true, Agree: k, Signer: k, Base: k}
			z.Kept = []api.Kept{{Ratchet: k, N: 2, Key: k}}
			a.wrote(&z, k, string(k[:]))
			for m := range uint16(4) {
				a.open(z, api.Header{Session: k, Ratchet: k, N: m}, k[:])
				a.open(z, api.Header{Session: k, Ratchet: named(n + 1), N: m, First: true, Agree: k, Signer: k, Base: k}, append(k[:], make([]byte, 16)...))
			}
		}
	}
}

// Whatever comes is taken, or refused, and nothing more.
func TestTotal(t *testing.T) {
	for _, a := range askers(t) {
		d := drawer(12)
		for range 200 {
			x := api.Session{
				Id: d.key(), Root: d.key(), Mine: d.key(), HasSend: d.flip(), Send: api.Chain{Key: d.key(), N: uint16(d.below(65536))}, Prev: uint16(d.below(65536)),
				Theirs: d.key(), HasRecv: d.flip(), Recv: api.Chain{Key: d.key(), N: uint16(d.below(65536))}, First: d.flip(), Agree: d.key(), Signer: d.key(), Base: d.key(), Once: uint16(d.below(65536)),
				Kept: kept(d.key(), uint16(d.below(65536)), d.below(40)),
			}
			a.seal(x, d.key(), d.text(d.below(1100)))
			for _, ratchet := range []api.Key{x.Theirs, d.key(), {}} {
				a.open(x, api.Header{Session: x.Id, First: true, Agree: d.key(), Ratchet: ratchet, N: uint16(d.below(65536)), Prev: uint16(d.below(65536))}, d.text(d.below(100)))
				a.open(x, api.Header{Session: x.Id, Ratchet: ratchet, N: x.Recv.N + uint16(d.below(20)), Prev: uint16(d.below(65536))}, d.text(32))
			}
		}
		a.open(api.Session{}, api.Header{}, nil)
		a.seal(api.Session{}, api.Key{}, nil)
	}
}
