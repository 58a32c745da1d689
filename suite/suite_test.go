package suite_test

import (
	"bytes"
	"math"
	"slices"
	"testing"

	"missive/api"
	"missive/suite"
)

// drawer makes bytes that look like thrown ones, the same each time.
type drawer uint64

func (d *drawer) text(n int) []byte {
	b := make([]byte, n)
	for i := range b {
		*d = *d*6364136223846793005 + 1442695040888963407
		b[i] = byte(*d >> 56)
	}
	return b
}

func (d *drawer) key() api.Key { return api.Key(d.text(32)) }

// kind is one of the two, with its name for what a test tells.
type kind struct {
	name string
	suite.Suite
}

// kinds are both, new.
func kinds() []kind {
	return []kind{{"real", suite.Real()}, {"free", suite.Free()}}
}

// count is how many terms there are.
func (s kind) count() int {
	if s.Terms() == nil {
		return 0
	}
	return s.Terms().Len()
}

// agreed is what the two have in common, which there must be.
func agreed(t *testing.T, s suite.Suite, secret, public api.Key) api.Key {
	t.Helper()
	k, ok := s.Agree(secret, public)
	if !ok {
		t.Fatalf("Agree(%x, %x): false", secret, public)
	}
	return k
}

// mixed is what is made of label and parts, which must be taken.
func mixed(t *testing.T, s suite.Suite, label byte, parts ...[]byte) api.Key {
	t.Helper()
	k, ok := s.Mix(label, parts...)
	if !ok {
		t.Fatalf("Mix(%d) of %d parts: false", label, len(parts))
	}
	return k
}

// sealed is what is made of key and plain, which must be taken.
func sealed(t *testing.T, s suite.Suite, key api.Key, plain []byte) []byte {
	t.Helper()
	b, ok := s.Seal(key, plain)
	if !ok {
		t.Fatalf("Seal of %d bytes: false", len(plain))
	}
	return b
}

// opens asks for what is sealed.
func opens(t *testing.T, s suite.Suite, key api.Key, b, plain []byte) {
	t.Helper()
	if got, ok := s.Open(key, b); !ok || !bytes.Equal(got, plain) {
		t.Fatalf("Open of %d bytes: %x %t, want %x", len(b), got, ok, plain)
	}
}

// closed asks that nothing is opened, and nothing made.
func closed(t *testing.T, s suite.Suite, what string, key api.Key, b []byte) {
	t.Helper()
	x := kind{"", s}
	n := x.count()
	if got, ok := s.Open(key, b); ok || len(got) != 0 || x.count() != n {
		t.Fatalf("Open of %s, %d bytes: %x %t, and %d terms more", what, len(b), got, ok, x.count()-n)
	}
}

// verified asks whether a signature is taken; nothing may be made.
func verified(t *testing.T, s suite.Suite, what string, want bool, signer api.Key, text []byte, sig api.Sig) {
	t.Helper()
	x := kind{"", s}
	n := x.count()
	if got := s.Verify(signer, text, sig); got != want || x.count() != n {
		t.Fatalf("Verify of %s: %t, want %t, and %d terms more", what, got, want, x.count()-n)
	}
}

// turned is b with that bit another.
func turned(b []byte, bit int) []byte {
	b = slices.Clone(b)
	b[bit/8] ^= 1 << (bit % 8)
	return b
}

// nines are n bytes 9.
func nines(n int) []byte { return bytes.Repeat([]byte{9}, n) }

// many are n parts of one byte, each another.
func many(n int) [][]byte {
	l := make([][]byte, n)
	for i := range l {
		l[i] = []byte{byte(i)}
	}
	return l
}

// P13.1

func TestReal(t *testing.T) {
	var zero suite.Suite
	if suite.Real() != zero || zero.Terms() != nil || suite.Real().Terms() != nil {
		t.Error("the zero value isn't the real suite, or that has terms")
	}
	if zero.Fresh(api.Key{1}) != (api.Key{1}) {
		t.Error("the zero value makes terms")
	}
}

func TestFree(t *testing.T) {
	a, b := suite.Free(), suite.Free()
	if a.Terms() == nil || b.Terms() == nil || a.Terms() == b.Terms() {
		t.Fatal("each free suite must have a table of its own")
	}
	if a.Terms().Len() != 0 || b.Terms().Len() != 0 {
		t.Fatal("a new table has terms")
	}
	a.Fresh(api.Key{1})
	k := a.Fresh(api.Key{2})
	if a.Terms().Len() != 2 || b.Terms().Len() != 0 {
		t.Fatalf("%d and %d terms, want 2 and 0", a.Terms().Len(), b.Terms().Len())
	}
	if _, _, ok := b.Terms().Of(k); ok {
		t.Error("what one suite made is another's")
	}
	// What stands for the same table is the same suite.
	again := a
	if again.Fresh(api.Key{2}) != k || again.Terms() != a.Terms() || a.Terms().Len() != 2 {
		t.Error("a suite that was handed on has another table")
	}
	if b.Fresh(api.Key{2}) == k {
		t.Error("a name tells another number than the term's")
	}
}

// What one free suite made is nothing to another one, whose names of the same numbers are those of other things.
func TestTablesAside(t *testing.T) {
	a, b := suite.Free(), suite.Free()
	for i := range byte(8) {
		b.Fresh(api.Key{i})
	}
	one, two := a.Fresh(api.Key{1}), a.Fresh(api.Key{2})
	sig, text := a.Sign(one, []byte("text")), sealed(t, a, two, []byte("plain"))
	verified(t, a, "the own signature", true, a.Signer(one), []byte("text"), sig)
	verified(t, b, "another table's signature", false, b.Signer(one), []byte("text"), sig)
	opens(t, a, two, text, []byte("plain"))
	closed(t, b, "what another table has", two, text)
}

// P13.6, Words

func TestSizes(t *testing.T) {
	for _, c := range [][2]int{
		{0, 32}, {1, 32}, {15, 32}, {16, 48}, {17, 48}, {31, 48}, {32, 64}, {1007, 1024}, {1008, 1040}, {1023, 1040}, {1024, 1056},
		{1025, 0}, {1039, 0}, {1040, 0}, {4096, 0}, {-1, 0}, {-16, 0}, {-1024, 0}, {math.MaxInt, 0}, {math.MinInt, 0}, {1 << 32, 0},
	} {
		if got := suite.Size(c[0]); got != c[1] {
			t.Errorf("Size(%d): %d, want %d", c[0], got, c[1])
		}
	}
	for n := range api.MaxPlain + 1 {
		if got, want := suite.Size(n), n/16*16+32; got != want {
			t.Fatalf("Size(%d): %d, want %d", n, got, want)
		}
	}
}

// P13.4

func TestLongTextsAreNotSigned(t *testing.T) {
	for _, s := range kinds() {
		secret := s.Fresh(api.Key{7})
		signer := s.Signer(secret)
		d := drawer(1)
		for _, n := range []int{0, 1, 4095, 4096} {
			text := d.text(n)
			sig := s.Sign(secret, text)
			if sig == (api.Sig{}) {
				t.Errorf("%s: Sign of %d bytes: zeros", s.name, n)
			}
			verified(t, s.Suite, "a text that may be", true, signer, text, sig)
			if n > 0 {
				verified(t, s.Suite, "a text cut off", false, signer, text[:n-1], sig)
			}
			verified(t, s.Suite, "a text with a byte behind", false, signer, append(text, 0), sig)
		}
		for _, n := range []int{4097, 5000, 70000} {
			text, count := d.text(n), s.count()
			if sig := s.Sign(secret, text); sig != (api.Sig{}) || s.count() != count {
				t.Errorf("%s: Sign of %d bytes: %x, and %d terms more", s.name, n, sig, s.count()-count)
			}
			verified(t, s.Suite, "zeros", false, signer, text, api.Sig{})
			verified(t, s.Suite, "what its beginning is signed by", false, signer, text, s.Sign(secret, text[:4096]))
		}
	}
}

// P13.5

func TestMixRefuses(t *testing.T) {
	fits, long := nines(1024), nines(1025)
	for _, s := range kinds() {
		for _, c := range []struct {
			what  string
			parts [][]byte
		}{
			{"9 parts", many(9)},
			{"9 empty parts", make([][]byte, 9)},
			{"64 parts", many(64)},
			{"65 parts", many(65)},
			{"300 parts", make([][]byte, 300)},
			{"1,025 bytes", [][]byte{long}},
			{"4,096 bytes", [][]byte{nines(4096)}},
			{"4,097 bytes", [][]byte{nines(4097)}},
			{"1,025 bytes ahead", [][]byte{long, nil, fits}},
			{"1,025 bytes between", [][]byte{nil, long, fits}},
			{"1,025 bytes at the end", [][]byte{fits, fits, fits, fits, fits, fits, fits, long}},
			{"9 parts, and 1,025 bytes", append(many(8), long)},
		} {
			n := s.count()
			if k, ok := s.Mix(1, c.parts...); ok || k != (api.Key{}) || s.count() != n {
				t.Errorf("%s: Mix of %s: %x %t, and %d terms more", s.name, c.what, k, ok, s.count()-n)
			}
		}
	}
}

// What is mixed of other things is another key; nil and empty are one.
func TestMixTellsAllApart(t *testing.T) {
	fits := nines(1024)
	for _, s := range kinds() {
		seen := map[api.Key]int{}
		for i, c := range []struct {
			label byte
			parts [][]byte
		}{
			{0, nil}, {1, nil}, {2, nil}, {255, nil},
			{1, [][]byte{nil}}, {1, [][]byte{nil, nil}}, {1, make([][]byte, 8)},
			{1, [][]byte{[]byte("a")}}, {2, [][]byte{[]byte("a")}}, {1, [][]byte{[]byte("b")}},
			{1, [][]byte{[]byte("a"), nil}}, {1, [][]byte{nil, []byte("a")}},
			{1, [][]byte{[]byte("ab")}}, {1, [][]byte{[]byte("a"), []byte("b")}}, {1, [][]byte{[]byte("b"), []byte("a")}},
			{1, [][]byte{{1}}}, {1, [][]byte{{1}, nil}},
			{1, many(7)}, {1, many(8)},
			{1, [][]byte{fits}}, {1, [][]byte{fits[1:]}}, {1, [][]byte{fits, fits, fits, fits, fits, fits, fits, fits}},
		} {
			k := mixed(t, s.Suite, c.label, c.parts...)
			if k == (api.Key{}) {
				t.Errorf("%s: the mix %d is zero", s.name, i)
			}
			if j, there := seen[k]; there {
				t.Errorf("%s: the mixes %d and %d are one key", s.name, j, i)
			}
			seen[k] = i
			if again := mixed(t, s.Suite, c.label, c.parts...); again != k {
				t.Errorf("%s: the mix %d is another one the second time", s.name, i)
			}
		}
		n := s.count()
		if mixed(t, s.Suite, 1, nil) != mixed(t, s.Suite, 1, []byte{}) || mixed(t, s.Suite, 1) != mixed(t, s.Suite, 1, [][]byte{}...) {
			t.Errorf("%s: nil is mixed to another key than empty", s.name)
		}
		if mixed(t, s.Suite, 1, nil, []byte("a")) != mixed(t, s.Suite, 1, []byte{}, []byte("a")) || s.count() != n {
			t.Errorf("%s: nil is mixed to another key than empty, beside a part", s.name)
		}
	}
}

// P13.6

func TestSealRefuses(t *testing.T) {
	for _, s := range kinds() {
		for _, n := range []int{1025, 1039, 1040, 4096, 4097, 70000} {
			count := s.count()
			if b, ok := s.Seal(api.Key{1}, nines(n)); ok || len(b) != 0 || s.count() != count {
				t.Errorf("%s: Seal of %d bytes: %x %t, and %d terms more", s.name, n, b, ok, s.count()-count)
			}
		}
	}
}

func TestEachPlain(t *testing.T) {
	for _, s := range kinds() {
		d, key := drawer(2), s.Fresh(api.Key{1})
		for n := range api.MaxPlain + 1 {
			plain := d.text(n)
			b := sealed(t, s.Suite, key, plain)
			if len(b) != suite.Size(n) {
				t.Fatalf("%s: Seal of %d bytes: %d bytes, want %d", s.name, n, len(b), suite.Size(n))
			}
			opens(t, s.Suite, key, b, plain)
		}
		if a, b := sealed(t, s.Suite, key, nil), sealed(t, s.Suite, key, []byte{}); !bytes.Equal(a, b) {
			t.Errorf("%s: nil is sealed as %x, empty as %x", s.name, a, b)
		}
	}
}

// One bit another, wherever it is, in what is locked or behind it; cut off; longer.
func TestSpoiltIsNotOpened(t *testing.T) {
	for _, s := range kinds() {
		d, key := drawer(3), s.Fresh(api.Key{1})
		for _, n := range []int{0, 15, 16, 40} {
			// Another text of the same key, so that the free suite has a name beside.
			plain, other := d.text(n), sealed(t, s.Suite, key, d.text(n+1))
			b := sealed(t, s.Suite, key, plain)
			for bit := range 8 * len(b) {
				spoilt := turned(b, bit)
				if got, ok := s.Open(key, spoilt); ok && (s.name == "real" || !bytes.Equal(sealed(t, s.Suite, key, got), spoilt)) {
					t.Fatalf("%s: %d bytes with the bit %d turned are opened: %x", s.name, n, bit, got)
				}
			}
			for i := range len(b) {
				closed(t, s.Suite, "what is cut off", key, b[:i])
			}
			for _, more := range [][]byte{{0}, {1}, nines(16), make([]byte, 16), make([]byte, 3000)} {
				closed(t, s.Suite, "what is longer", key, append(slices.Clone(b), more...))
			}
			closed(t, s.Suite, "what has a byte ahead", key, append([]byte{0}, b...))
			closed(t, s.Suite, "two of them", key, append(slices.Clone(b), b...))
			closed(t, s.Suite, "another one's end", key, append(slices.Clone(b[:len(b)-16]), nines(16)...))
			opens(t, s.Suite, key, b, plain)
			// Where both are as long, names of the free suite end alike: so that is the first one again.
			if both := slices.Concat(b[:16], other[16:]); !bytes.Equal(both, b) {
				closed(t, s.Suite, "one's beginning, another one's end", key, both)
			}
		}
		for n := range 32 {
			closed(t, s.Suite, "zeros", key, make([]byte, n))
			closed(t, s.Suite, "drawn bytes", key, d.text(n))
		}
		closed(t, s.Suite, "nothing", key, nil)
		for n := 32; n < 1200; n += 16 {
			closed(t, s.Suite, "zeros", key, make([]byte, n))
			closed(t, s.Suite, "drawn bytes", key, d.text(n))
		}
	}
}

func TestAnotherKeyDoesNotOpen(t *testing.T) {
	for _, s := range kinds() {
		key := s.Fresh(api.Key{1})
		b := sealed(t, s.Suite, key, []byte("plain"))
		for bit := range 256 {
			closed(t, s.Suite, "another key's", api.Key(turned(key[:], bit)), b)
		}
		closed(t, s.Suite, "another key's", api.Key{}, b)
		closed(t, s.Suite, "another key's", s.Public(key), b)
		closed(t, s.Suite, "another key's", s.Fresh(api.Key{2}), b)
		closed(t, s.Suite, "its own bytes'", api.Key(b), b)
	}
}

// P13.7

func TestWhatWasMadeIsTaken(t *testing.T) {
	for _, s := range kinds() {
		d := drawer(4)
		for i := range 12 {
			a, b := s.Fresh(d.key()), s.Fresh(d.key())
			one, two := agreed(t, s.Suite, a, s.Public(b)), agreed(t, s.Suite, b, s.Public(a))
			if one != two || one == (api.Key{}) {
				t.Fatalf("%s: the two agree on %x and %x", s.name, one, two)
			}
			text := d.text(100 * i)
			verified(t, s.Suite, "what was signed", true, s.Signer(a), text, s.Sign(a, text))
			opens(t, s.Suite, one, sealed(t, s.Suite, one, text[:50*i]), text[:50*i])
		}
	}
}

// secrets are five: made ones, and such that never were made, which differ in the first byte or in the last one only.
func secrets(s suite.Suite) []api.Key {
	return []api.Key{s.Fresh(api.Key{1}), s.Fresh(api.Key{2}), {}, {31: 1}, {200, 1}}
}

// Two agree on one key just if they are the same two secrets.
func TestWhoAgrees(t *testing.T) {
	s := suite.Free()
	l := secrets(s)
	type pair struct{ less, more int }
	by := map[pair]api.Key{}
	seen := map[api.Key]pair{}
	for i, a := range l {
		for j, b := range l {
			k := agreed(t, s, a, s.Public(b))
			p := pair{min(i, j), max(i, j)}
			if was, there := by[p]; there && was != k {
				t.Errorf("%v agree on %x and on %x", p, was, k)
			}
			if was, there := seen[k]; there && was != p {
				t.Errorf("%v and %v agree on one key", was, p)
			}
			by[p], seen[k] = k, p
		}
	}
	if len(seen) != 15 {
		t.Errorf("%d keys, want 15", len(seen))
	}
}

// No other text, no other signer is verified; no other key opens.
func TestNothingElseIsTaken(t *testing.T) {
	for _, s := range kinds() {
		l := secrets(s.Suite)
		if s.name == "real" {
			// Each takes some time there: two will do.
			l = l[:2]
		}
		texts := [][]byte{nil, {0}, {0, 0}, []byte("text"), []byte("texts"), []byte("texu"), nines(1024)}
		for i, a := range l {
			for m, text := range texts {
				sig, b := s.Sign(a, text), sealed(t, s.Suite, a, text)
				for j, other := range l {
					for n, another := range texts {
						verified(t, s.Suite, "each text by each signer", i == j && m == n, s.Signer(other), another, sig)
					}
					if i == j {
						opens(t, s.Suite, other, b, text)
					} else {
						closed(t, s.Suite, "another secret's", other, b)
					}
				}
			}
		}
	}
}

// Rules

// room is b with spare room behind it, and the whole of it.
func room(b []byte) (short, whole []byte) {
	whole = append(slices.Clone(b), nines(40)...)
	return whole[:len(b)], whole
}

// What is handed in, and its spare room, is left as it was.
func TestArgumentsAreLeft(t *testing.T) {
	for _, s := range kinds() {
		key := s.Fresh(api.Key{1})
		signer := s.Signer(key)
		for _, n := range []int{0, 1, 15, 16, 1000} {
			d := drawer(5)
			text, whole := room(d.text(n))
			was := slices.Clone(whole)
			sig := s.Sign(key, text)
			verified(t, s.Suite, "a text with room behind", true, signer, text, sig)
			b, wholeB := room(sealed(t, s.Suite, key, text))
			wasB := slices.Clone(wholeB)
			opens(t, s.Suite, key, b, text)
			closed(t, s.Suite, "another key's, with room behind", api.Key{2}, b)
			parts := append(make([][]byte, 0, 12), text, text[:n/2], nil)
			mixed(t, s.Suite, 1, parts...)
			s.Mix(1, append(parts, nines(1025))...)
			if !bytes.Equal(whole, was) || !bytes.Equal(wholeB, wasB) {
				t.Fatalf("%s: an argument of %d bytes, or its spare room, is changed", s.name, n)
			}
			for i, want := range [][]byte{was[:n], was[:n/2], nil, nines(1025)} {
				if !bytes.Equal(parts[:4][i], want) {
					t.Fatalf("%s: the list of parts is changed at %d", s.name, i)
				}
			}
			for _, p := range parts[:12][4:] {
				if p != nil {
					t.Fatalf("%s: the spare room of the list of parts is changed", s.name)
				}
			}
		}
	}
}

// What was handed in may be written over: nothing hangs on it any more.
func TestArgumentsAreNotKept(t *testing.T) {
	for _, s := range kinds() {
		key := s.Fresh(api.Key{1})
		text := []byte("a text that is written over")
		was := slices.Clone(text)
		sig, b, k := s.Sign(key, text), sealed(t, s.Suite, key, text), mixed(t, s.Suite, 1, text)
		clear(text)
		verified(t, s.Suite, "what was written over", true, s.Signer(key), was, sig)
		verified(t, s.Suite, "what it was written over with", false, s.Signer(key), text, sig)
		opens(t, s.Suite, key, b, was)
		if mixed(t, s.Suite, 1, was) != k || mixed(t, s.Suite, 1, text) == k {
			t.Errorf("%s: Mix has kept what was handed in", s.name)
		}
	}
}

// Answers may be written over, and put behind: no other answer hangs on them.
func TestAnswersAreNewMemory(t *testing.T) {
	for _, s := range kinds() {
		key, plain := s.Fresh(api.Key{1}), []byte("sixteen bytes ..")
		one, two := sealed(t, s.Suite, key, plain), sealed(t, s.Suite, key, plain)
		want := slices.Clone(one)
		for i := range one[:cap(one)] {
			one[:cap(one)][i] = 77
		}
		if !bytes.Equal(two, want) || !bytes.Equal(sealed(t, s.Suite, key, plain), want) {
			t.Errorf("%s: what is sealed shares memory", s.name)
		}
		a, _ := s.Open(key, two)
		b, _ := s.Open(key, two)
		for i := range a[:cap(a)] {
			a[:cap(a)][i] = 77
		}
		if string(b) != string(plain) || !bytes.Equal(two, want) || string(plain) != "sixteen bytes .." {
			t.Errorf("%s: what is opened shares memory", s.name)
		}
		opens(t, s.Suite, key, two, plain)
	}
}

// One list may be all arguments.
func TestOneListAsAllArguments(t *testing.T) {
	for _, s := range kinds() {
		l := nines(32)
		key := api.Key(l)
		opens(t, s.Suite, key, sealed(t, s.Suite, key, l), l)
		verified(t, s.Suite, "the key's own bytes", true, s.Signer(key), l, s.Sign(key, l))
		if mixed(t, s.Suite, 9, l, l, l) != mixed(t, s.Suite, 9, nines(32), nines(32), nines(32)) {
			t.Errorf("%s: Mix of one list, three times, is another key", s.name)
		}
	}
}

// The same done twice answers the same.
func TestTheSameAgain(t *testing.T) {
	again := kinds()
	for i, s := range kinds() {
		a, b := told(s.Suite), told(again[i].Suite)
		if !bytes.Equal(a, b) {
			t.Errorf("%s: the same done twice answers %x and %x", s.name, a, b)
		}
		// Done once more with the same table: all terms are there.
		n := s.count()
		if b = told(s.Suite); !bytes.Equal(a, b) || s.count() != n {
			t.Errorf("%s: done once more it answers %x, want %x, and %d terms more", s.name, b, a, s.count()-n)
		}
	}
}

// told is what a row of calls answers.
func told(s suite.Suite) []byte {
	d := drawer(6)
	a, b := s.Fresh(d.key()), s.Fresh(d.key())
	public, signer := s.Public(a), s.Signer(b)
	k, _ := s.Agree(b, public)
	odd, _ := s.Agree(a, signer)
	sig := s.Sign(b, []byte("text"))
	m, _ := s.Mix(3, k[:], odd[:])
	l, _ := s.Seal(m, []byte("plain"))
	p, _ := s.Open(m, l)
	return slices.Concat(a[:], b[:], public[:], signer[:], k[:], odd[:], sig[:], m[:], l, p)
}
