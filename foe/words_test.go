package foe_test

import (
	"bytes"
	"slices"
	"strings"
	"testing"

	"missive/api"
	"missive/foe"
	"missive/suite"
)

// The chapter's words, put down a second time, and what is asked by them.

// joined is the joined text of the pieces.
func joined(pieces ...[]byte) ([]byte, bool) {
	if len(pieces) > 64 {
		return nil, false
	}
	b := []byte{byte(len(pieces))}
	for _, p := range pieces {
		if len(p) > 4096 {
			return nil, false
		}
		b = append(append(b, byte(len(p)/256), byte(len(p)%256)), p...)
	}
	return b, true
}

// pieces are those of a joined text.
func pieces(b []byte) (l [][]byte, ok bool) {
	if len(b) == 0 || b[0] > 64 {
		return nil, false
	}
	count, b := int(b[0]), b[1:]
	for range count {
		if len(b) < 2 {
			return nil, false
		}
		n := int(b[0])*256 + int(b[1])
		if n > 4096 || len(b) < 2+n {
			return nil, false
		}
		l, b = append(l, b[2:2+n]), b[2+n:]
	}
	return l, len(b) == 0
}

// cook is a foe at work: of each place what its step made.
type cook struct {
	s    suite.Suite
	seen [][]byte
	own  []api.Key
	made map[int][]byte
}

func (c cook) key(place int) (k api.Key, ok bool) {
	b := c.made[place]
	copy(k[:], b)
	return k, len(b) == 32
}

// all are what stands at the places; false, if something isn't there.
func (c cook) all(places ...int) (l [][]byte, ok bool) {
	for _, n := range places {
		b, there := c.made[n]
		if !there {
			return nil, false
		}
		l = append(l, b)
	}
	return l, true
}

// filled are the bytes, if there is one that isn't 0.
func filled(b []byte) ([]byte, bool) { return b, len(bytes.Trim(b, "\x00")) > 0 }

// plain does the steps for which no key is needed.
func (c cook) plain(x api.Step) (b []byte, ok bool) {
	switch x.Kind {
	case 1:
		return x.Bytes, len(x.Bytes) < 13 && !strings.Contains(string(x.Bytes), "term")
	case 2:
		for n, b := range c.seen {
			if n == x.N {
				return b, true
			}
		}
	case 3:
		if l, ok := pieces(c.made[x.A]); ok && x.N >= 0 && x.N < len(l) {
			return l[x.N], true
		}
	case 4:
		if l, ok := c.all(x.Parts...); ok && len(l) <= 16 {
			return joined(l...)
		}
	case 5:
		if x.N >= 0 && x.N < 65536 {
			k := c.s.Fresh(api.Key{0, 251, byte(x.N / 256), byte(x.N % 256)})
			return filled(k[:])
		}
	case 10:
		if l, ok := c.all(x.Parts...); ok && x.N >= 0 && x.N < 256 {
			k, ok := c.s.Mix(byte(x.N), l...)
			return k[:], ok
		}
	case 13:
		for n, k := range c.own {
			if n == x.N {
				return k[:], true
			}
		}
	}
	return nil, false
}

// keyed does the others.
func (c cook) keyed(x api.Step) (b []byte, ok bool) {
	a, ok := c.key(x.A)
	if !ok {
		return nil, false
	}
	if x.Kind == 6 {
		k := c.s.Public(a)
		return filled(k[:])
	}
	if x.Kind == 7 {
		k := c.s.Signer(a)
		return filled(k[:])
	}
	l, ok := c.all(x.B)
	if !ok {
		return nil, false
	}
	switch x.Kind {
	case 8:
		if k, ok := c.key(x.B); ok {
			k, ok = c.s.Agree(a, k)
			return k[:], ok
		}
	case 9:
		if len(l[0]) <= 4096 {
			sig := c.s.Sign(a, l[0])
			return filled(sig[:])
		}
	case 11:
		return c.s.Seal(a, l[0])
	case 12:
		return c.s.Open(a, l[0])
	}
	return nil, false
}

func (c cook) cooked(steps []api.Step) ([]byte, bool) {
	if len(steps) > 32 || len(steps) == 0 {
		return nil, false
	}
	for n, x := range steps {
		do := c.keyed
		if slices.Contains([]int{1, 2, 3, 4, 5, 10, 13}, x.Kind) {
			do = c.plain
		}
		b, ok := do(x)
		if !ok || len(b) > 8192 {
			return nil, false
		}
		c.made[n] = b
	}
	return c.made[len(steps)-1], true
}

// What is asked, each time held against these words.

// kitchen is a foe, and beside it another one like it, who goes by the words: each has a suite of its own, to which the same was done.
type kitchen struct {
	t        *testing.T
	one, two suite.Suite
	seen     [][]byte
	own      []api.Key
	terms    *int // how many terms were held against each other
}

func free(t *testing.T) *kitchen {
	return &kitchen{t: t, one: suite.Free(), two: suite.Free(), terms: new(int)}
}

func real(t *testing.T) *kitchen {
	return &kitchen{t: t, one: suite.Real(), two: suite.Real(), terms: new(int)}
}

// kitchens are one of each kind.
func kitchens(t *testing.T) map[string]*kitchen {
	return map[string]*kitchen{"free": free(t), "real": real(t)}
}

// both does the same with both suites.
func both[T any](k *kitchen, do func(s suite.Suite) T) T {
	do(k.two)
	return do(k.one)
}

// cook asks for what the steps make.
func (k *kitchen) cook(steps ...api.Step) ([]byte, bool) {
	k.t.Helper()
	got, done := foe.Cook(k.one, steps, k.seen, k.own)
	want, ok := cook{k.two, k.seen, k.own, map[int][]byte{}}.cooked(steps)
	if !ok {
		want = nil
	}
	if !bytes.Equal(got, want) || done != ok {
		k.t.Fatalf("Cook of %v: %d bytes %x %t, want %x %t", steps, len(got), head(got), done, head(want), ok)
	}
	k.alike()
	return got, done
}

// is asks that the steps make this.
func (k *kitchen) is(want []byte, steps ...api.Step) {
	k.t.Helper()
	if b, ok := k.cook(steps...); !ok || !bytes.Equal(b, want) {
		k.t.Fatalf("Cook of %v: %x %t, want %x", steps, head(b), ok, head(want))
	}
}

// not asks that the steps make nothing.
func (k *kitchen) not(steps ...api.Step) {
	k.t.Helper()
	if b, ok := k.cook(steps...); ok || len(b) != 0 {
		k.t.Fatalf("Cook of %v: %x %t, want nothing", steps, head(b), ok)
	}
}

// done asks whether something is made.
func (k *kitchen) done(want bool, steps ...api.Step) {
	k.t.Helper()
	if _, ok := k.cook(steps...); ok != want {
		k.t.Fatalf("Cook of %v: %t, want %t", steps, ok, want)
	}
}

// count is how many terms there are.
func (k *kitchen) count() int {
	if k.one.Terms() == nil {
		return 0
	}
	return k.one.Terms().Len()
}

// alike asks that the same terms were made, in the same order.
func (k *kitchen) alike() {
	k.t.Helper()
	if k.one.Terms() == nil {
		return
	}
	if a, b := k.count(), k.two.Terms().Len(); a != b {
		k.t.Fatalf("%d terms were made, want %d", a, b)
	}
	for ; *k.terms < k.count(); *k.terms++ {
		n := named(*k.terms + 1)
		kind, parts, _ := k.one.Terms().Of(n)
		want, l, _ := k.two.Terms().Of(n)
		if kind != want || !sameLists(parts, l) {
			k.t.Fatalf("the term %d is of %d %x, want %d %x", *k.terms+1, kind, parts, want, l)
		}
	}
}

func sameLists(a, b [][]byte) bool {
	for i := range a {
		if i >= len(b) || !bytes.Equal(a[i], b[i]) {
			return false
		}
	}
	return len(a) == len(b)
}

// head is the first bytes, so that what is told stays short.
func head(b []byte) []byte { return b[:min(len(b), 80)] }

// named is the name of the number.
func named(n int) api.Key {
	return api.Key{'t', 'e', 'r', 'm', byte(n >> 24), byte(n >> 16), byte(n >> 8), byte(n)}
}
