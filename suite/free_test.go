package suite_test

import (
	"bytes"
	"slices"
	"testing"

	"missive/api"
	"missive/suite"
	"missive/term"
)

// named is the name of the number, put down byte by byte as the words have it.
func named(n int) api.Key {
	return api.Key{'t', 'e', 'r', 'm', byte(n >> 24), byte(n >> 16), byte(n >> 8), byte(n)}
}

// made is the name of a term that is put into the suite's table.
func made(t *testing.T, s suite.Suite, kind int, parts ...[]byte) api.Key {
	t.Helper()
	k, ok := s.Terms().Make(kind, parts...)
	if !ok {
		t.Fatalf("Make(%d) of %d parts: false", kind, len(parts))
	}
	return k
}

// is asks for the number, the kind and the parts of a name.
func is(t *testing.T, s suite.Suite, n int, k api.Key, kind int, parts ...[]byte) {
	t.Helper()
	got, l, ok := s.Terms().Of(k)
	if !ok || got != kind || !slices.EqualFunc(l, parts, bytes.Equal) {
		t.Fatalf("the name %x is of %d %q, want %d %q", k, got, l, kind, parts)
	}
	if k != named(n) {
		t.Fatalf("the name is %x, want %x", k, named(n))
	}
}

// isLast asks for the same, and that nothing was made behind it.
func isLast(t *testing.T, s suite.Suite, k api.Key, kind int, parts ...[]byte) {
	t.Helper()
	is(t, s, s.Terms().Len(), k, kind, parts...)
}

// front is the signature's first half, behind which there must be zeros.
func front(t *testing.T, sig api.Sig) api.Key {
	t.Helper()
	if !bytes.Equal(sig[32:], make([]byte, 32)) {
		t.Fatalf("the signature's second half isn't zeros: %x", sig)
	}
	return api.Key(sig[:32])
}

// signature is one of that first half, and zeros.
func signature(k api.Key) (sig api.Sig) {
	copy(sig[:], k[:])
	return sig
}

// padded is the name, and zeros up to that size.
func padded(k api.Key, size int) []byte {
	b := make([]byte, size)
	copy(b, k[:])
	return b
}

// Each call makes just one term, of its kind and its parts; done once more it makes none.
func TestFreeTerms(t *testing.T) {
	s, a, b, text := suite.Free(), api.Key{1}, api.Key{2}, []byte("text")
	three, four := named(3), named(4)
	for round := range 2 {
		for i, c := range []struct {
			do    func() api.Key
			kind  int
			parts [][]byte
		}{
			{func() api.Key { return s.Fresh(a) }, term.Nonce, [][]byte{a[:]}},
			{func() api.Key { return s.Fresh(b) }, term.Nonce, [][]byte{b[:]}},
			{func() api.Key { return s.Public(a) }, term.Public, [][]byte{a[:]}},
			{func() api.Key { return s.Signer(a) }, term.Signer, [][]byte{a[:]}},
			{func() api.Key { return agreed(t, s, b, three) }, term.Shared, [][]byte{a[:], b[:]}},
			{func() api.Key { return agreed(t, s, b, four) }, term.Odd, [][]byte{b[:], four[:]}},
			{func() api.Key { return front(t, s.Sign(a, text)) }, term.Signed, [][]byte{a[:], text}},
			{func() api.Key { return mixed(t, s, 3, text, nil) }, term.Mixed, [][]byte{{3}, text, nil}},
			{func() api.Key { return api.Key(sealed(t, s, a, text)) }, term.Sealed, [][]byte{a[:], text}},
		} {
			is(t, s, i+1, c.do(), c.kind, c.parts...)
			if want := max(i+1, 9*round); s.Terms().Len() != want {
				t.Fatalf("%d terms, want %d", s.Terms().Len(), want)
			}
		}
	}
}

// P13.2: any bytes are a secret, names and others.

func TestFreeKeysOfAnySecret(t *testing.T) {
	s, d := suite.Free(), drawer(30)
	for _, k := range []api.Key{{}, {1}, {31: 255}, d.key(), named(1), named(2), named(1000)} {
		isLast(t, s, s.Fresh(k), term.Nonce, k[:])
		isLast(t, s, s.Public(k), term.Public, k[:])
		isLast(t, s, s.Signer(k), term.Signer, k[:])
	}
}

// P13.3

func TestTheLesserFirst(t *testing.T) {
	s := suite.Free()
	for _, c := range [][2]api.Key{
		{{}, {}}, {{1}, {1}}, {{}, {1}}, {{}, {31: 1}}, {{1}, {2}}, {{127}, {128}}, {{1, 255}, {2}}, {{0, 1}, {1}},
		{{31: 127}, {31: 128}}, {{5, 5, 5, 15: 1, 16: 9}, {5, 5, 5, 15: 2}}, {named(1), named(2)}, {{255}, named(2)},
	} {
		less, more := c[0], c[1]
		if less[0] == 255 {
			less, more = more, less
		}
		// Both publics ahead: so that what they agree on is the last term.
		one, two := s.Public(less), s.Public(more)
		k := agreed(t, s, more, one)
		isLast(t, s, k, term.Shared, less[:], more[:])
		if got := agreed(t, s, less, two); got != k {
			t.Errorf("%x and %x agree on %x, the other way round on %x", less, more, k, got)
		}
		// And the other way round first, in a table of its own.
		x := suite.Free()
		isLast(t, x, agreed(t, x, less, x.Public(more)), term.Shared, less[:], more[:])
	}
}

// A term Public that nobody asked the suite for is a public key too.
func TestPublicOfTheTable(t *testing.T) {
	s, a, b := suite.Free(), api.Key{1}, api.Key{2}
	isLast(t, s, agreed(t, s, b, made(t, s, term.Public, a[:])), term.Shared, a[:], b[:])
}

func TestOddAgreements(t *testing.T) {
	s, d := suite.Free(), drawer(31)
	a := api.Key{1}
	text := []byte("text")
	spoilt := s.Public(a)
	spoilt[31] = 1
	l := []api.Key{{}, {2}, d.key(), spoilt, named(0), named(5000), named(1<<32 - 1)}
	for kind := term.Nonce; kind <= term.Sealed; kind++ {
		if kind != term.Public {
			l = append(l, made(t, s, kind, a[:]))
		}
		l = append(l, made(t, s, kind), made(t, s, kind, a[:], text), made(t, s, kind, a[:], nil), made(t, s, kind, nil, a[:]))
		l = append(l, made(t, s, kind, nil), made(t, s, kind, a[:31]), made(t, s, kind, nines(33)), made(t, s, kind, nines(64)))
	}
	for _, public := range l {
		// Whichever is the lesser one, the secret is first.
		for _, secret := range []api.Key{{}, {1}, {255}, {9, 9}} {
			k := agreed(t, s, secret, public)
			isLast(t, s, k, term.Odd, secret[:], public[:])
			if again := agreed(t, s, secret, public); again != k {
				t.Errorf("Agree(%x, %x): %x, and then %x", secret, public, k, again)
			}
		}
		if public != (api.Key{}) {
			isLast(t, s, agreed(t, s, public, public), term.Odd, public[:], public[:])
		}
	}
	// The name that is the next one's is none yet; then it is that of this very agreement.
	next := named(s.Terms().Len() + 1)
	if k := agreed(t, s, a, next); k != next || agreed(t, s, a, next) != next {
		t.Errorf("Agree with the next name: %x, want %x", k, next)
	}
	isLast(t, s, next, term.Odd, a[:], next[:])
}

// P13.4

func TestFreeSignatures(t *testing.T) {
	s, d := suite.Free(), drawer(32)
	for _, n := range []int{0, 1, 32, 1025, 4096} {
		secret, text := d.key(), d.text(n)
		signer := s.Signer(secret)
		sig := s.Sign(secret, text)
		isLast(t, s, front(t, sig), term.Signed, secret[:], text)
		verified(t, s, "the signature", true, signer, text, sig)
		for bit := range 512 {
			verified(t, s, "another signature", false, signer, text, api.Sig(turned(sig[:], bit)))
		}
		for bit := range 256 {
			verified(t, s, "another signer's", false, api.Key(turned(signer[:], bit)), text, sig)
		}
		for bit := 0; bit < 8*n; bit += 101 {
			verified(t, s, "another text", false, signer, turned(text, bit), sig)
		}
		verified(t, s, "zeros", false, signer, text, api.Sig{})
		verified(t, s, "zeros, of no signer", false, api.Key{}, text, api.Sig{})
		verified(t, s, "the secret's instead of the signer's", false, secret, text, sig)
		verified(t, s, "the signature's own name", false, front(t, sig), text, sig)
	}
	if s.Sign(api.Key{1}, nil) != s.Sign(api.Key{1}, []byte{}) {
		t.Error("nil is signed otherwise than empty")
	}
}

// A first half that is another kind's name, or one of other parts.
func TestNoFreeSignature(t *testing.T) {
	s, a, b, text := suite.Free(), api.Key{1}, api.Key{2}, []byte("text")
	signer := s.Signer(a)
	for kind := term.Nonce; kind <= term.Sealed; kind++ {
		k := made(t, s, kind, a[:], text)
		verified(t, s, "a term of each kind", kind == term.Signed, signer, text, signature(k))
	}
	for _, parts := range [][][]byte{
		nil, {a[:]}, {text}, {text, a[:]}, {a[:], text, nil}, {nil, a[:], text}, {a[:], text, text}, {a[:], a[:]},
		{a[:], nil}, {nil, text}, {a[:31], text}, {append(a[:], 0), text}, {b[:], text}, {signer[:], text}, {append(a[:], text...)},
	} {
		verified(t, s, "a term Signed of other parts", false, signer, text, signature(made(t, s, term.Signed, parts...)))
	}
	verified(t, s, "the signer's own name", false, signer, text, signature(signer))
	verified(t, s, "a name that isn't made", false, signer, text, signature(named(s.Terms().Len()+1)))
	verified(t, s, "a name that isn't made, of a signer that isn't", false, named(s.Terms().Len()+1), text, signature(named(s.Terms().Len()+1)))
	verified(t, s, "drawn bytes", false, signer, text, signature(api.Key{9}))
}

// Bytes in the second half that aren't zeros, each of them.
func TestSecondHalf(t *testing.T) {
	s, a, text := suite.Free(), api.Key{1}, []byte("text")
	signer, sig := s.Signer(a), s.Sign(a, text)
	for i := 32; i < 64; i++ {
		for _, x := range []byte{1, 128, 255} {
			other := sig
			other[i] = x
			verified(t, s, "what has another byte behind", false, signer, text, other)
		}
	}
	other := sig
	copy(other[32:], sig[:32])
	verified(t, s, "the name twice", false, signer, text, other)
	verified(t, s, "the name behind zeros", false, signer, text, api.Sig(append(make([]byte, 32), sig[:32]...)))
}

// A signer that is another kind's name, or one of other parts, or none.
func TestNoFreeSigner(t *testing.T) {
	s, a, b, text := suite.Free(), api.Key{1}, api.Key{2}, []byte("text")
	sig := s.Sign(a, text)
	for kind := term.Nonce; kind <= term.Sealed; kind++ {
		k := made(t, s, kind, a[:])
		verified(t, s, "a signer of each kind", kind == term.Signer, k, text, sig)
	}
	for _, parts := range [][][]byte{
		nil, {nil}, {a[:], nil}, {nil, a[:]}, {a[:], a[:]}, {a[:], text}, {a[:31]}, {append(a[:], 0)}, {b[:]}, {text},
	} {
		verified(t, s, "a signer of other parts", false, made(t, s, term.Signer, parts...), text, sig)
	}
	verified(t, s, "a signer that isn't made", false, named(s.Terms().Len()+1), text, sig)
	verified(t, s, "drawn bytes", false, api.Key{9}, text, sig)
	verified(t, s, "no signer", false, api.Key{}, text, sig)
	verified(t, s, "the signer", true, s.Signer(a), text, sig)
}

// Verify makes no signer: there is one only as soon as somebody made it.
func TestVerifyMakesNothing(t *testing.T) {
	s, a, text := suite.Free(), api.Key{1}, []byte("text")
	sig := s.Sign(a, text)
	verified(t, s, "a signer that is made later", false, named(2), text, sig)
	if s.Signer(a) != named(2) {
		t.Fatal("the signer isn't the second term")
	}
	verified(t, s, "a signer that was made", true, named(2), text, sig)
}

// The first part may be of any length, as long as it is the signer's one part.
func TestSignersOfOddSecrets(t *testing.T) {
	s, text := suite.Free(), []byte("text")
	for _, secret := range [][]byte{nil, {1}, nines(31), nines(33), nines(4096)} {
		sig := signature(made(t, s, term.Signed, secret, text))
		verified(t, s, "an odd secret's signature", true, made(t, s, term.Signer, secret), text, sig)
		verified(t, s, "an odd secret's signature, of a signer without parts", false, made(t, s, term.Signer), text, sig)
	}
}

// P13.5

func TestFreeMixes(t *testing.T) {
	s, fits := suite.Free(), nines(1024)
	for _, parts := range [][][]byte{
		nil, {nil}, {nil, nil}, {[]byte("a")}, {[]byte("a"), nil, []byte("bc")}, {fits}, many(7), many(8), make([][]byte, 8),
		{fits, fits, fits, fits, fits, fits, fits, fits},
	} {
		for _, label := range []byte{0, 1, 7, 255} {
			k := mixed(t, s, label, parts...)
			isLast(t, s, k, term.Mixed, append([][]byte{{label}}, parts...)...)
		}
	}
}

// P13.6

func TestFreeSeals(t *testing.T) {
	s, d := suite.Free(), drawer(33)
	for _, n := range []int{0, 1, 15, 16, 17, 31, 32, 1008, 1023, 1024} {
		key, plain := d.key(), d.text(n)
		b := sealed(t, s, key, plain)
		k := named(s.Terms().Len())
		isLast(t, s, k, term.Sealed, key[:], plain)
		if !bytes.Equal(b, padded(k, suite.Size(n))) {
			t.Errorf("Seal of %d bytes: %x", n, b)
		}
		count := s.Terms().Len()
		opens(t, s, key, b, plain)
		if s.Terms().Len() != count {
			t.Errorf("Open makes %d terms", s.Terms().Len()-count)
		}
	}
}

// Bytes behind the name that aren't zeros, each of them; and other sizes.
func TestBehindTheName(t *testing.T) {
	s, key := suite.Free(), api.Key{1}
	for _, n := range []int{0, 15, 16, 100, 1024} {
		b := sealed(t, s, key, nines(n))
		for i := 32; i < len(b); i++ {
			for _, x := range []byte{1, 128, 255} {
				other := slices.Clone(b)
				other[i] = x
				closed(t, s, "what has another byte behind", key, other)
			}
		}
		for size := 32; size <= 1200; size++ {
			if size != suite.Size(n) {
				closed(t, s, "what has another size", key, padded(api.Key(b), size))
			}
		}
	}
}

// Names of terms that Seal doesn't make.
func TestNamesThatAreNotSealed(t *testing.T) {
	s, key, plain := suite.Free(), api.Key{1}, []byte("plain")
	for kind := term.Nonce; kind < term.Sealed; kind++ {
		closed(t, s, "another kind's", key, padded(made(t, s, kind, key[:], plain), 32))
	}
	for _, parts := range [][][]byte{
		nil, {key[:]}, {plain}, {key[:], plain, nil}, {key[:], plain, plain}, {nil, key[:], plain}, {plain, key[:]},
		{nil, plain}, {key[:31], plain}, {append(key[:], 0), plain}, {nines(32), plain}, {append(key[:], plain...)},
	} {
		k := made(t, s, term.Sealed, parts...)
		for _, size := range []int{32, 48, 64} {
			closed(t, s, "one of other parts", key, padded(k, size))
		}
	}
	next := named(s.Terms().Len() + 1)
	closed(t, s, "a name that isn't made", key, next[:])
	closed(t, s, "the key", key, key[:])
	// What is in the table just as Seal makes it is opened, whoever made it.
	opens(t, s, key, padded(made(t, s, term.Sealed, key[:], plain), 32), plain)
	opens(t, s, key, padded(made(t, s, term.Sealed, key[:], nines(1024)), 1056), nines(1024))
}

// A text that Seal refuses is opened in no size, though there is such a term.
func TestSealedTermsThatAreTooLong(t *testing.T) {
	s, key := suite.Free(), api.Key{1}
	for _, n := range []int{1025, 1039, 1040, 4096} {
		k := made(t, s, term.Sealed, key[:], nines(n))
		for _, size := range []int{32, 1040, 1056, 1072, n/16*16 + 32, n + 32} {
			closed(t, s, "a text that is too long", key, padded(k, size))
		}
		closed(t, s, "a text that is too long", key, nil)
	}
}

// Words: a full table

func TestFullTable(t *testing.T) {
	s, a, b, text := suite.Free(), api.Key{1}, api.Key{2}, []byte("text")
	before := everything(t, s, a, b, text)
	for i := s.Terms().Len(); i < api.MaxTerms-1; i++ {
		made(t, s, term.Mixed, []byte{byte(i), byte(i >> 8)})
	}
	if s.Terms().Len() != api.MaxTerms-1 {
		t.Fatalf("%d terms", s.Terms().Len())
	}
	// There is room for just one more.
	is(t, s, api.MaxTerms, s.Fresh(api.Key{3}), term.Nonce, keyBytes(api.Key{3}))
	if after := everything(t, s, a, b, text); !bytes.Equal(after, before) {
		t.Errorf("what was there is %x, want %x", after, before)
	}
	c := api.Key{4}
	for what, k := range map[string]api.Key{"Fresh": s.Fresh(c), "Public": s.Public(c), "Signer": s.Signer(c)} {
		if k != (api.Key{}) {
			t.Errorf("%s in a full table: %x", what, k)
		}
	}
	if k, ok := s.Agree(c, s.Public(a)); ok || k != (api.Key{}) {
		t.Errorf("Agree with a public key, in a full table: %x %t", k, ok)
	}
	if k, ok := s.Agree(c, api.Key{}); ok || k != (api.Key{}) {
		t.Errorf("Agree with no public key, in a full table: %x %t", k, ok)
	}
	if sig := s.Sign(c, text); sig != (api.Sig{}) {
		t.Errorf("Sign in a full table: %x", sig)
	}
	verified(t, s, "the answer of a full table", false, s.Signer(a), text, s.Sign(c, text))
	if k, ok := s.Mix(9, text); ok || k != (api.Key{}) {
		t.Errorf("Mix in a full table: %x %t", k, ok)
	}
	if l, ok := s.Seal(c, text); ok || len(l) != 0 {
		t.Errorf("Seal in a full table: %x %t", l, ok)
	}
	closed(t, s, "the answer of a full table", c, nil)
	if s.Terms().Len() != api.MaxTerms {
		t.Errorf("%d terms, want %d", s.Terms().Len(), api.MaxTerms)
	}
}

// keyBytes are the bytes of a key.
func keyBytes(k api.Key) []byte { return k[:] }

// everything is what each call answers, of things that can be made.
func everything(t *testing.T, s suite.Suite, a, b api.Key, text []byte) []byte {
	t.Helper()
	nonce, public, signer := s.Fresh(a), s.Public(a), s.Signer(a)
	shared, odd := agreed(t, s, b, public), agreed(t, s, b, api.Key{})
	sig, m, l := s.Sign(a, text), mixed(t, s, 1, text), sealed(t, s, a, text)
	verified(t, s, "what was signed", true, signer, text, sig)
	opens(t, s, a, l, text)
	return slices.Concat(nonce[:], public[:], signer[:], shared[:], odd[:], sig[:], m[:], l)
}
