package account_test

import (
	"bytes"
	"slices"
	"testing"

	"missive/account"
	"missive/api"
)

// P19.5

// packing asks for the bytes of an account, and for it of the bytes.
func packing(t *testing.T, x api.Account) []byte {
	t.Helper()
	b, ok := account.Pack(x)
	if want := joined(packed(x)...); !ok || !bytes.Equal(b, want) {
		t.Fatalf("Pack(%v): %x %t, want %x", x, b, ok, want)
	}
	if y, ok := account.Unpack(b); !ok || !same(x, y) {
		t.Fatalf("Unpack of Pack(%v): %v %t", x, y, ok)
	}
	return b
}

// unpacks asks whether bytes are an account's, by the words put down a second time.
func unpacks(t *testing.T, what string, b []byte) bool {
	t.Helper()
	x, ok := account.Unpack(b)
	switch {
	case ok != isAccount(b):
		t.Fatalf("Unpack of %s, %x: %t", what, b, ok)
	case !ok && !same(x, api.Account{}):
		t.Fatalf("Unpack of %s, %x: false, beside %v", what, b, x)
	case ok && !bytes.Equal(joined(packed(x)...), b):
		t.Fatalf("Unpack of %s, %x: %v", what, b, x)
	}
	return ok
}

// refusesBytes asks that bytes are no account's.
func refusesBytes(t *testing.T, what string, b []byte) {
	t.Helper()
	if unpacks(t, what, b) {
		t.Fatalf("Unpack of %s, %x: true", what, b)
	}
}

// filled is an account of which no two fields are alike.
func filled(keys int) api.Account {
	x := api.Account{Agree: run(1), Sign: run(2), Fallback: api.Once{Secret: run(3)}, Next: 0x0102}
	for i := range keys {
		x.Left = append(x.Left, api.Once{Id: 0x0304 + uint16(i), Secret: run(byte(50 + i))})
	}
	return x
}

func TestPack(t *testing.T) {
	packing(t, api.Account{})
	packing(t, api.Account{Left: []api.Once{}})
	packing(t, api.Account{Left: make([]api.Once, 8)})
	for n := range 9 {
		packing(t, filled(n))
	}
	for _, a := range askers(t) {
		packing(t, a.device(1, 5))
	}
	for _, n := range numbers {
		packing(t, api.Account{Next: n, Left: []api.Once{{Id: n}, {Id: n}}})
	}
	d := drawer(4)
	for i := range 200 {
		x := d.account(i % 9)
		x.Fallback.Id = 0
		packing(t, x)
	}
}

// The bytes of one, by hand.
func TestPackByHand(t *testing.T) {
	key := func(n byte) []byte { k := run(n); return append([]byte{0, 32}, k[:]...) }
	one, two := run(50), run(51)
	want := slices.Concat([]byte{6}, key(1), key(2), key(3), []byte{0, 2, 1, 2}, []byte{0, 34, 3, 4}, one[:], []byte{0, 34, 3, 5}, two[:])
	if b := packing(t, filled(2)); !bytes.Equal(b, want) {
		t.Errorf("Pack: %x, want %x", b, want)
	}
}

func TestPackOfWhatMayNotBe(t *testing.T) {
	for _, n := range []int{9, 10, 60, 61, 64, 1000} {
		x := api.Account{Next: 1, Left: make([]api.Once, n)}
		if b, ok := account.Pack(x); ok || len(b) != 0 {
			t.Errorf("Pack of %d keys: %x %t", n, b, ok)
		}
		refusesBytes(t, "an account with too many keys", joined(append(packed(filled(0)), packed(x)[4:min(n+4, 64)]...)...))
	}
	for _, id := range numbers {
		x := filled(2)
		x.Fallback.Id = id
		if b, ok := account.Pack(x); ok != (id == 0) || !ok && len(b) != 0 {
			t.Errorf("Pack of a fallback of the number %d: %x %t", id, b, ok)
		}
	}
}

// Unlike accounts have unlike bytes: each field by itself.
func TestEachFieldIsPacked(t *testing.T) {
	seen := map[string]string{}
	put := func(what string, x api.Account) {
		b := string(packing(t, x))
		if seen[b] != "" {
			t.Errorf("%s is packed as %s", what, seen[b])
		}
		seen[b] = what
	}
	put("the whole", filled(2))
	for what, set := range map[string]func(x *api.Account){
		"Agree":           func(x *api.Account) { x.Agree[31]++ },
		"Sign":            func(x *api.Account) { x.Sign[31]++ },
		"Fallback.Secret": func(x *api.Account) { x.Fallback.Secret[31]++ },
		"Next":            func(x *api.Account) { x.Next++ },
		"Next's first":    func(x *api.Account) { x.Next += 256 },
		"no key":          func(x *api.Account) { x.Left = nil },
		"one key":         func(x *api.Account) { x.Left = x.Left[:1] },
		"the other key":   func(x *api.Account) { x.Left = x.Left[1:] },
		"the keys round":  func(x *api.Account) { slices.Reverse(x.Left) },
		"Id":              func(x *api.Account) { x.Left[1].Id++ },
		"Id's first":      func(x *api.Account) { x.Left[1].Id += 256 },
		"Secret":          func(x *api.Account) { x.Left[1].Secret[0]++ },
		"a key twice":     func(x *api.Account) { x.Left[1] = x.Left[0] },
	} {
		x := filled(2)
		set(&x)
		put(what, x)
	}
}

func TestUnpackOfOtherPieces(t *testing.T) {
	for _, n := range []int{0, 1, 2, 7, 8} {
		l := packed(filled(n))
		for i, p := range l {
			for _, other := range instead(p) {
				m := slices.Clone(l)
				m[i] = other
				unpacks(t, "another piece", joined(m...))
			}
			unpacks(t, "a piece less", joined(slices.Delete(slices.Clone(l), i, i+1)...))
			unpacks(t, "a piece twice", joined(slices.Insert(slices.Clone(l), i, p)...))
			unpacks(t, "no more than some pieces", joined(l[:i]...))
			for j := range i {
				m := slices.Clone(l)
				m[i], m[j] = m[j], m[i]
				unpacks(t, "two pieces round", joined(m...))
			}
		}
		for _, p := range instead(nil) {
			unpacks(t, "a piece more", joined(append(slices.Clone(l), p)...))
		}
	}
}

// instead are pieces of other lengths, and such that only begin as p does.
func instead(p []byte) [][]byte {
	l := [][]byte{nil, {0}, {7}, {0, 0}, {1, 0}, {0, 0, 0}, {0, 1, 2}, make([]byte, 31), make([]byte, 32), make([]byte, 33), make([]byte, 34), make([]byte, 35), make([]byte, 39), make([]byte, 4096)}
	l = append(l, append(slices.Clone(p), 0), append([]byte{0}, p...))
	if len(p) > 0 {
		l = append(l, p[1:], p[:len(p)-1])
	}
	return l
}

func TestUnpackOfOtherBytes(t *testing.T) {
	for _, n := range []int{0, 2} {
		b := joined(packed(filled(n))...)
		for i := range b {
			refusesBytes(t, "what is cut off", b[:i])
			for _, x := range []byte{0, 1, 2, 3, 31, 33, 255, b[i] + 1, b[i] - 1, b[i] ^ 128} {
				other := slices.Clone(b)
				other[i] = x
				unpacks(t, "another byte", other)
			}
		}
		refusesBytes(t, "what has more behind", append(slices.Clone(b), 0))
		refusesBytes(t, "what has itself behind", append(slices.Clone(b), b...))
	}
	refusesBytes(t, "nothing", nil)
	refusesBytes(t, "no pieces", []byte{0})
	refusesBytes(t, "too many pieces", []byte{65})
	refusesBytes(t, "zeros", make([]byte, 600))
	d := drawer(6)
	for n := range 300 {
		unpacks(t, "drawn bytes", d.text(n))
	}
}
