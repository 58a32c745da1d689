package account_test

import (
	"bytes"
	"math"
	"slices"
	"testing"

	"missive/account"
	"missive/api"
	"missive/suite"
)

// Rules that hold everywhere

// answer is what a call answers, all of it.
type answer struct {
	x       api.Account
	y       api.Session
	bundles []api.Bundle
	b       []byte
	e       api.Errno
}

func (a answer) copied() answer {
	a.x, a.bundles, a.b = copied(a.x), slices.Clone(a.bundles), slices.Clone(a.b)
	return a
}

func (a answer) is(b answer) bool {
	return same(a.x, b.x) && alike(a.y, b.y) && slices.Equal(a.bundles, b.bundles) && bytes.Equal(a.b, b.b) && a.e == b.e
}

// doing is a call of the package's, of an account, of draws and of bytes, with all else given.
type doing func(x api.Account, draws []api.Key, b []byte) answer

func more(s suite.Suite) doing {
	return func(x api.Account, draws []api.Key, _ []byte) answer {
		y, e := account.More(s, x, draws)
		return answer{x: y, e: e}
	}
}

func bundles(s suite.Suite) doing {
	return func(x api.Account, _ []api.Key, _ []byte) answer {
		return answer{bundles: account.Bundles(s, x, 9)}
	}
}

func begin(s suite.Suite, b api.Bundle) doing {
	return func(x api.Account, _ []api.Key, _ []byte) answer {
		y, e := account.Begin(s, x, b, run(7), run(8))
		return answer{y: y, e: e}
	}
}

func answers(s suite.Suite, h api.Header) doing {
	return func(x api.Account, _ []api.Key, _ []byte) answer {
		y, z, e := account.Answer(s, x, h)
		return answer{x: y, y: z, e: e}
	}
}

func pack(x api.Account, _ []api.Key, _ []byte) answer {
	b, _ := account.Pack(x)
	return answer{b: b}
}

func unpack(_ api.Account, _ []api.Key, b []byte) answer {
	x, _ := account.Unpack(b)
	return answer{x: x}
}

// call is one of these, and what is handed in.
type call struct {
	what  string
	x     api.Account
	draws []api.Key
	b     []byte
	do    doing
}

// calls are some of each, done and refused.
func calls(t *testing.T, s suite.Suite) []call {
	t.Helper()
	x, e := account.More(s, account.New(s, run(1), run(2), run(3)), draws(1, 4))
	y := account.New(s, run(4), run(5), run(6))
	l := account.Bundles(s, x, 5)
	header := func(i int) api.Header {
		z, _ := account.Begin(s, y, l[i], run(7), run(8))
		return api.Header{Session: z.Id, First: true, Agree: z.Agree, Signer: z.Signer, Base: z.Base, Id: z.Once, Ratchet: s.Public(z.Mine)}
	}
	packed, ok := account.Pack(x)
	if e != api.OK || !ok {
		t.Fatal(e, ok)
	}
	last, full, spoilt := x, x, header(2)
	last.Next, full.Left, spoilt.Session[0] = 65534, append(slices.Clone(x.Left), x.Left...), 1
	return []call{
		{"More", x, draws(2, 3), nil, more(s)},
		{"More of none", x, nil, nil, more(s)},
		{"More of the first", y, draws(2, 3), nil, more(s)},
		{"More of too many", x, draws(2, 5), nil, more(s)},
		{"More beyond the last number", last, draws(2, 3), nil, more(s)},
		{"Bundles", x, nil, nil, bundles(s)},
		{"Begin", x, nil, nil, begin(s, l[2])},
		{"Begin by no bundle", x, nil, nil, begin(s, api.Bundle{})},
		{"Answer by the fallback", x, nil, nil, answers(s, header(0))},
		{"Answer by the first key", x, nil, nil, answers(s, header(1))},
		{"Answer by a key between", x, nil, nil, answers(s, header(2))},
		{"Answer by the last key", x, nil, nil, answers(s, header(4))},
		{"Answer to another number", x, nil, nil, answers(s, spoilt)},
		{"Answer by no key", y, nil, nil, answers(s, header(3))},
		{"Answer to no first letter", x, nil, nil, answers(s, api.Header{})},
		{"Pack", x, nil, nil, pack},
		{"Pack of too many", api.Account{Left: make([]api.Once, 9)}, nil, nil, pack},
		{"Pack of eight", full, nil, nil, pack},
		{"Unpack", api.Account{}, nil, packed, unpack},
		{"Unpack of no account's", api.Account{}, nil, packed[1:], unpack},
	}
}

// room are a call's lists, whole, with what lies in the spare room behind what is handed in.
type room struct {
	left  []api.Once
	draws []api.Key
	b     []byte
}

func (r room) copied() room {
	return room{slices.Clone(r.left), slices.Clone(r.draws), slices.Clone(r.b)}
}

func (r room) is(s room) bool {
	return slices.Equal(r.left, s.left) && slices.Equal(r.draws, s.draws) && bytes.Equal(r.b, s.b)
}

// roomy is the call with spare room behind its lists.
func (c call) roomy() (call, room) {
	r := room{append(slices.Clone(c.x.Left), make([]api.Once, 20)...), append(slices.Clone(c.draws), draws(99, 20)...), append(slices.Clone(c.b), bytes.Repeat([]byte{7}, 600)...)}
	for i := range r.left[len(c.x.Left):] {
		r.left[len(c.x.Left)+i] = api.Once{Id: 7000, Secret: run(byte(i))}
	}
	c.x.Left, c.draws, c.b = r.left[:len(c.x.Left)], r.draws[:len(c.draws)], r.b[:len(c.b)]
	return c, r
}

// What is handed in, and its spare room, is left as it was; and neither kept nor shared.
func TestArgumentsAreLeft(t *testing.T) {
	for _, s := range []suite.Suite{suite.Real(), suite.Free()} {
		for _, c := range calls(t, s) {
			c, r := c.roomy()
			was := r.copied()
			got := c.do(c.x, c.draws, c.b)
			if !r.is(was) {
				t.Fatalf("%s: what is handed in is changed", c.what)
			}
			want := got.copied()
			for i := range r.left {
				r.left[i] = api.Once{Id: 12345}
			}
			for i := range r.draws {
				r.draws[i][0]++
			}
			for i := range r.b {
				r.b[i]++
			}
			if !got.is(want) {
				t.Fatalf("%s: the answer shares memory with what is handed in", c.what)
			}
			copy(r.left, was.left)
			copy(r.draws, was.draws)
			copy(r.b, was.b)
			if again := c.do(c.x, c.draws, c.b); !again.is(want) {
				t.Fatalf("%s: what is handed in is kept", c.what)
			}
		}
	}
}

// An answer may be written over, and put behind.
func TestAnswersAreNewMemory(t *testing.T) {
	for _, s := range []suite.Suite{suite.Real(), suite.Free()} {
		for _, c := range calls(t, s) {
			c, r := c.roomy()
			was := r.copied()
			one, two := c.do(c.x, c.draws, c.b), c.do(c.x, c.draws, c.b)
			want := two.copied()
			for i := range one.x.Left[:cap(one.x.Left)] {
				one.x.Left[:cap(one.x.Left)][i] = api.Once{Id: 12345}
			}
			for i := range one.bundles[:cap(one.bundles)] {
				one.bundles[:cap(one.bundles)][i] = api.Bundle{Id: 12345}
			}
			for i := range one.b[:cap(one.b)] {
				one.b[:cap(one.b)][i]++
			}
			for range 40 {
				one.x.Left = append(one.x.Left, api.Once{Id: 12345})
				one.bundles = append(one.bundles, api.Bundle{Id: 12345})
				one.b = append(one.b, 99)
			}
			if !r.is(was) {
				t.Fatalf("%s: what is handed in shares memory with the answer", c.what)
			}
			if !two.is(want) || !c.do(c.x, c.draws, c.b).is(want) {
				t.Fatalf("%s: two answers share memory", c.what)
			}
		}
	}
}

// Nothing that isn't the account's lies in its list's spare room: no key that was used up.
func TestNothingLiesBehind(t *testing.T) {
	for _, s := range []suite.Suite{suite.Real(), suite.Free()} {
		for _, c := range calls(t, s) {
			c, _ = c.roomy()
			l := c.do(c.x, c.draws, c.b).x.Left
			for _, k := range l[len(l):cap(l)] {
				if k != (api.Once{}) {
					t.Fatalf("%s: behind the list there is %v", c.what, k)
				}
			}
		}
	}
}

// The same done twice answers the same, in another suite too; in the free suite nothing more is made by it.
func TestTheSameAgain(t *testing.T) {
	for _, s := range [][2]suite.Suite{{suite.Real(), suite.Real()}, {suite.Free(), suite.Free()}} {
		ones, twos := calls(t, s[0]), calls(t, s[1])
		for i, c := range ones {
			want := c.do(c.x, c.draws, c.b)
			was := asker{T: t, s: s[0]}.count()
			if again := c.do(c.x, c.draws, c.b); !again.is(want) || (asker{T: t, s: s[0]}).count() != was {
				t.Errorf("%s: done once more it answers %v, want %v", c.what, again, want)
			}
			if other := twos[i].do(twos[i].x, twos[i].draws, twos[i].b); !other.is(want) {
				t.Errorf("%s: in another suite it answers %v, want %v", c.what, other, want)
			}
		}
	}
}

// The zero value is the real suite.
func TestZeroSuite(t *testing.T) {
	a := asker{t, suite.Suite{}, model{suite.Real()}}
	x := a.device(1, 2)
	_, h := a.begins(a.device(2, 0), a.bundles(x, 3)[1], run(1), run(2))
	_, _, e := a.answer(x, h)
	a.is("Answer", e, api.OK)
}

// Keys are any bytes: names of terms too, of those that are there and of those that come.
func TestNamesAsKeys(t *testing.T) {
	a := termer(t)
	for _, n := range []int{0, 1, 2, 3, 9, 30, math.MaxUint16, math.MaxInt32 - 1} {
		for i := range 3 {
			k := [3]api.Key{named(n), named(a.count() + 1), named(a.count() + 2)}[i]
			x := api.Account{Agree: k, Sign: k, Fallback: api.Once{Id: 1, Secret: k}, Left: []api.Once{{Id: 2, Secret: k}}, Next: 7}
			x, _ = a.more(x, []api.Key{k, named(n + 1)})
			for _, b := range a.bundles(x, byte(n)) {
				y, e := a.begin(x, b, k, k)
				a.is("Begin", e, api.OK)
				_, _, e = a.answer(x, a.first(y))
				a.is("Answer", e, api.OK)
				a.answer(x, api.Header{First: true, Session: k, Agree: k, Base: k, Signer: k, Id: b.Id, Ratchet: k})
				a.check(api.Bundle{Agree: k, Signer: k, Once: k, Sig: api.Sig(append(k[:], k[:]...))})
			}
		}
	}
}

// Whatever comes is taken, or refused, and nothing more.
func TestTotal(t *testing.T) {
	for _, a := range askers(t) {
		d := drawer(12)
		for i := range 25 {
			x := d.account(d.below(12))
			a.public(x)
			a.more(x, draws(byte(i), d.below(12)))
			l := a.bundles(x, byte(i))
			b := l[d.below(len(l))]
			y, e := a.begin(d.account(2), b, d.key(), d.key())
			a.is("Begin", e, api.OK)
			left, _, e := a.answer(x, a.first(y))
			if first := b == l[0] || b.Id != x.Fallback.Id; first && e != api.OK {
				t.Fatalf("Answer: %d", e)
			}
			a.answer(left, a.first(y))
			b.Sig = api.Sig(d.text(64))
			a.begin(x, b, d.key(), d.key())
			a.begin(x, a.resigned(api.Bundle{Device: byte(i), Agree: d.key(), Signer: b.Signer, Id: d.number(), Once: d.key()}, x.Sign), d.key(), d.key())
			for _, id := range []uint16{x.Fallback.Id, b.Id, d.number()} {
				a.answer(x, api.Header{Session: d.key(), First: i%5 > 0, Agree: d.key(), Signer: d.key(), Base: d.key(), Id: id, Ratchet: d.key(), N: d.number(), Prev: d.number()})
			}
		}
		a.begin(api.Account{}, api.Bundle{}, api.Key{}, api.Key{})
		a.answer(api.Account{}, api.Header{First: true})
		a.answer(api.Account{}, api.Header{})
		a.bundles(api.Account{}, 0)
		a.more(api.Account{}, make([]api.Key, 2))
	}
}
