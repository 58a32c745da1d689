package term_test

import (
	"bytes"
	"math"
	"slices"
	"strings"
	"testing"

	"missive/api"
	"missive/term"
)

// drawer makes numbers that look like thrown ones, the same each time.
type drawer uint64

// below is a number from 0 on, below n.
func (d *drawer) below(n int) int {
	*d = *d*6364136223846793005 + 1442695040888963407
	return int(uint64(*d) >> 33 % uint64(n))
}

// text is n bytes, in which no name begins.
func (d *drawer) text(n int) []byte {
	b := make([]byte, n)
	for i := range b {
		b[i] = byte(d.below(100))
	}
	return b
}

// named is the name of the number, put down byte by byte as the words have it.
func named(n uint32) api.Key {
	return api.Key{'t', 'e', 'r', 'm', byte(n >> 24), byte(n >> 16), byte(n >> 8), byte(n)}
}

// cat is the pieces, one behind the other: texts, keys and bytes.
func cat(pieces ...any) []byte {
	b := []byte{}
	for _, p := range pieces {
		switch p := p.(type) {
		case string:
			b = append(b, p...)
		case api.Key:
			b = append(b, p[:]...)
		case []byte:
			b = append(b, p...)
		}
	}
	return b
}

// made is the name of a term that must be made; the parts are pieces as cat has them.
func made(t *testing.T, x *term.Table, kind int, parts ...any) api.Key {
	t.Helper()
	k, ok := x.Make(kind, lists(parts...)...)
	if !ok {
		t.Fatalf("Make(%d, %q): false", kind, parts)
	}
	return k
}

// lists are the pieces, each one alone.
func lists(pieces ...any) [][]byte {
	l := make([][]byte, len(pieces))
	for i, p := range pieces {
		l[i] = cat(p)
	}
	return l
}

// refuses asks that nothing is made.
func refuses(t *testing.T, x *term.Table, what string, kind int, parts ...[]byte) {
	t.Helper()
	n := x.Len()
	if k, ok := x.Make(kind, parts...); ok || k != (api.Key{}) || x.Len() != n {
		t.Fatalf("Make(%d) of %s: %v %t, and %d terms more", kind, what, k, ok, x.Len()-n)
	}
}

// isNone asks that a key is no name.
func isNone(t *testing.T, x *term.Table, k api.Key) {
	t.Helper()
	if kind, parts, ok := x.Of(k); kind != 0 || len(parts) != 0 || ok {
		t.Fatalf("Of(%v): %d %q %t", k, kind, parts, ok)
	}
	if l := x.In(k[:]); len(l) != 0 {
		t.Fatalf("In(%v): %v", k, l)
	}
}

// is asks for the kind and the parts of a name.
func is(t *testing.T, x *term.Table, k api.Key, kind int, parts ...[]byte) {
	t.Helper()
	if got, l, ok := x.Of(k); got != kind || !slices.EqualFunc(l, parts, bytes.Equal) || !ok {
		t.Fatalf("Of(%v): %d %q %t, want %d %q", k, got, l, ok, kind, parts)
	}
}

// holds asks which of the names are known of seen, and which aren't.
func holds(t *testing.T, x *term.Table, seen [][]byte, yes, no []api.Key) {
	t.Helper()
	w := x.Known(seen)
	for i, k := range yes {
		if !w.Has(k[:]) {
			t.Errorf("of %q the name %d isn't known: %v", seen, i, k)
		}
	}
	for i, k := range no {
		if w.Has(k[:]) {
			t.Errorf("of %q the name %d is known: %v", seen, i, k)
		}
	}
}

// nonces are so many terms that can't be made of anything.
func nonces(t *testing.T, x *term.Table, n int) []api.Key {
	t.Helper()
	l := make([]api.Key, n)
	for i := range l {
		l[i] = made(t, x, term.Nonce, []byte{byte(i), byte(i >> 8)})
	}
	return l
}

// P12.1

func TestNew(t *testing.T) {
	x := term.New()
	if x.Len() != 0 {
		t.Errorf("Len: %d", x.Len())
	}
	isNone(t, x, api.Key{})
	isNone(t, x, named(0))
	isNone(t, x, named(1))
	if l := x.In(nil); len(l) != 0 {
		t.Errorf("In(nil): %v", l)
	}
	if w := x.Known(nil); !w.Has(nil) || !w.Has([]byte("text")) {
		t.Error("bytes without names aren't known")
	}
	// Each table has names of its own.
	made(t, x, term.Nonce, "a")
	if y := term.New(); y.Len() != 0 {
		t.Errorf("Len of another table: %d", y.Len())
	} else {
		isNone(t, y, named(1))
	}
}

func TestNamesSayNumbers(t *testing.T) {
	x := term.New()
	for n := range uint32(700) {
		if k := made(t, x, term.Nonce, []byte{byte(n >> 8), byte(n)}); k != named(n+1) || x.Len() != int(n+1) {
			t.Fatalf("the term number %d: %v, Len %d", n+1, k, x.Len())
		}
	}
	if k := named(258); k != ([32]byte{116, 101, 114, 109, 0, 0, 1, 2}) {
		t.Fatal(k)
	}
	is(t, x, named(258), term.Nonce, []byte{1, 1})
}

func TestKinds(t *testing.T) {
	for i, k := range []int{term.Nonce, term.Public, term.Shared, term.Odd, term.Signer, term.Signed, term.Mixed, term.Sealed} {
		if k != i+1 {
			t.Fatalf("the kind %d: %d", i+1, k)
		}
	}
	x := term.New()
	for kind := 1; kind <= 8; kind++ {
		made(t, x, kind)
		made(t, x, kind, "a")
	}
	for _, kind := range []int{
		0, 9, 10, 16, -1, -2, -8, -255, 255, 256, 257, 264, 265, 1 << 16, 1<<16 + 1, 1 << 32, 1<<32 + 1, 1<<32 + 8,
		math.MinInt, math.MinInt + 1, math.MinInt + 8, math.MaxInt, math.MaxInt32, math.MinInt32,
	} {
		refuses(t, x, "no part", kind)
		refuses(t, x, "a part", kind, []byte("a"))
		refuses(t, x, "too many parts", kind, make([][]byte, 65)...)
	}
	if x.Len() != 16 {
		t.Errorf("Len: %d", x.Len())
	}
}

// unlike are lists of parts no two of which are the same, though many have the same bytes.
func unlike() [][][]byte {
	l := [][][]byte{
		{}, lists(""), lists("", ""), lists("", "", ""),
		lists("abc"), lists("a", "bc"), lists("ab", "c"), lists("a", "b", "c"), lists("abc", ""), lists("", "abc"), lists("a", "", "bc"), lists("acb"),
		{{0}}, {{0}, {0}}, {{0, 0}}, {{0, 0, 0}}, {{1}}, {{1, 0, 0}}, {{0, 1}}, {{1, 0, 1, 97}},
		lists("a"), lists("b"), lists("a", "b"), lists("b", "a"), lists("a", "a"), lists("A"), lists("\x01a"),
		lists(named(1)), lists(named(2)), lists(named(1), named(2)), lists(cat(named(1), named(2))), lists("term"),
		lists(strings.Repeat("a", 255)), lists(strings.Repeat("a", 256)), lists(strings.Repeat("a", 257)), lists(strings.Repeat("a", 4095)), lists(strings.Repeat("a", 4096)),
		make([][]byte, 63), make([][]byte, 64),
	}
	for n := range 64 {
		p := make([][]byte, 64)
		p[n] = []byte("a")
		l = append(l, p)
	}
	return l
}

func TestTermsThatAreUnlike(t *testing.T) {
	x := term.New()
	n := uint32(0)
	for range 3 {
		n = 0
		for _, parts := range unlike() {
			for kind := 1; kind <= 8; kind++ {
				n++
				if k, ok := x.Make(kind, parts...); !ok || k != named(n) {
					t.Fatalf("Make(%d, %d parts): %v %t, want the number %d", kind, len(parts), k, ok, n)
				}
				is(t, x, named(n), kind, parts...)
			}
		}
		if x.Len() != int(n) {
			t.Fatalf("Len: %d, want %d", x.Len(), n)
		}
	}
}

func TestNilIsEmpty(t *testing.T) {
	x := term.New()
	for kind := 1; kind <= 8; kind++ {
		none, one := made(t, x, kind), made(t, x, kind, "")
		two, three := made(t, x, kind, "", ""), made(t, x, kind, "", "a", "")
		for _, c := range []struct {
			want  api.Key
			parts [][]byte
		}{
			{none, nil}, {none, [][]byte{}},
			{one, [][]byte{nil}}, {one, [][]byte{{}}}, {one, [][]byte{[]byte("a")[:0]}},
			{two, [][]byte{nil, {}}}, {two, [][]byte{{}, nil}}, {two, [][]byte{nil, nil}},
			{three, [][]byte{nil, []byte("a"), {}}}, {three, [][]byte{{}, []byte("a"), nil}},
		} {
			if k, ok := x.Make(kind, c.parts...); k != c.want || !ok {
				t.Fatalf("Make(%d, %#v): %v %t, want %v", kind, c.parts, k, ok, c.want)
			}
		}
	}
	if x.Len() != 32 {
		t.Errorf("Len: %d", x.Len())
	}
	if l, e := x.In(nil), x.In([]byte{}); len(l) != 0 || len(e) != 0 {
		t.Errorf("In of nil and of no bytes: %v, %v", l, e)
	}
	for _, seen := range [][][]byte{nil, {}, {nil}, {{}}, {nil, {}}} {
		if w := x.Known(seen); !w.Has(nil) || !w.Has([]byte{}) {
			t.Errorf("of %#v no bytes aren't known", seen)
		}
	}
}

func TestPartsThatCannotBeJoined(t *testing.T) {
	x := term.New()
	long := bytes.Repeat([]byte("a"), 4097)
	many := func(n int, p []byte) [][]byte { return slices.Repeat([][]byte{p}, n) }
	for kind := 0; kind <= 9; kind++ {
		refuses(t, x, "65 empty parts", kind, make([][]byte, 65)...)
		refuses(t, x, "65 parts", kind, many(65, []byte("a"))...)
		refuses(t, x, "256 parts", kind, make([][]byte, 256)...)
		refuses(t, x, "257 parts", kind, make([][]byte, 257)...)
		refuses(t, x, "a part of 4097 bytes", kind, long)
		refuses(t, x, "a part of 4097 bytes, and others", kind, nil, long[:4096], long)
		refuses(t, x, "a part of 4097 bytes, ahead of others", kind, long, nil)
		refuses(t, x, "a part of 65536 bytes", kind, make([]byte, 65536))
		refuses(t, x, "a part of 65537 bytes", kind, make([]byte, 65537))
	}
	for i, parts := range [][][]byte{many(64, nil), many(64, []byte("a")), {long[:4096]}, many(64, long[:4096])} {
		if k, ok := x.Make(term.Mixed, parts...); !ok || k != named(uint32(i+1)) {
			t.Fatalf("Make of %d parts of %d bytes: %v %t", len(parts), len(parts[0]), k, ok)
		}
		is(t, x, named(uint32(i+1)), term.Mixed, parts...)
	}
	if x.Len() != 4 {
		t.Errorf("Len: %d", x.Len())
	}
}

func TestFullTable(t *testing.T) {
	x := term.New()
	for n := range uint32(65535) {
		if k, ok := x.Make(term.Public, []byte{byte(n >> 8), byte(n)}); !ok || k != named(n+1) {
			t.Fatalf("the term number %d: %v %t", n+1, k, ok)
		}
	}
	for range 2 {
		if x.Len() != 65535 {
			t.Fatalf("Len: %d", x.Len())
		}
		refuses(t, x, "a part that isn't there", term.Public, []byte{0, 0, 0})
		refuses(t, x, "no part", term.Public)
		refuses(t, x, "a part of another kind", term.Nonce, []byte{0, 0})
		refuses(t, x, "a part, of no kind", 0, []byte{0, 0})
		refuses(t, x, "a part that is too long", term.Public, make([]byte, 4097))
		isNone(t, x, named(0))
		isNone(t, x, named(65536))
		isNone(t, x, named(65536+65535))
		isNone(t, x, named(math.MaxUint32))
	}
	for n := range uint32(65535) {
		part := []byte{byte(n >> 8), byte(n)}
		if k, ok := x.Make(term.Public, part); !ok || k != named(n+1) {
			t.Fatalf("the term number %d again: %v %t", n+1, k, ok)
		}
		is(t, x, named(n+1), term.Public, part)
	}
	last := named(65535)
	if l := x.In(cat("a", last, named(65536), named(1))); !slices.Equal(l, []api.Key{last, named(1)}) {
		t.Errorf("In: %v", l)
	}
	if w := x.Known(nil); !w.Has(last[:]) {
		t.Error("the last one isn't known")
	}
}

func TestOfNoName(t *testing.T) {
	x := term.New()
	for n := range uint32(300) {
		made(t, x, term.Nonce, []byte{byte(n >> 8), byte(n)})
	}
	for _, n := range []uint32{0, 301, 302, 511, 512, 513, 65535, 65536, 65537, 65536 + 300, 1 << 24, 1<<24 + 1, 1 << 31, 1<<31 + 1, math.MaxUint32} {
		isNone(t, x, named(n))
	}
	isNone(t, x, api.Key{})
	isNone(t, x, api.Key(bytes.Repeat([]byte{255}, 32)))
	isNone(t, x, api.Key(cat("Term", make([]byte, 3), "\x01", make([]byte, 24))))
	isNone(t, x, api.Key(cat(make([]byte, 4), make([]byte, 3), "\x01", make([]byte, 24))))
	isNone(t, x, api.Key(cat(make([]byte, 24), "term", make([]byte, 3), "\x01")))
	isNone(t, x, api.Key(cat("term", "\x01", make([]byte, 27))))
	// Each byte of a name changed, but its number's last two, makes none of it.
	for _, n := range []uint32{1, 2, 256, 300} {
		is(t, x, named(n), term.Nonce, []byte{byte((n - 1) >> 8), byte(n - 1)})
		for i := range 32 {
			for _, by := range []byte{1, 2, 32, 128, 255} {
				if k := named(n); i != 6 && i != 7 {
					k[i] ^= by
					isNone(t, x, k)
				}
			}
		}
	}
	if x.Len() != 300 {
		t.Errorf("Len: %d", x.Len())
	}
	isNone(t, x, named(301))
	made(t, x, term.Sealed)
	is(t, x, named(301), term.Sealed)
}

func TestIn(t *testing.T) {
	x := term.New()
	l := nonces(t, x, 300)
	a, b, late := l[0], l[1], named(301)
	// The last byte of this one's number is the first one of a name.
	tt := named('t')
	for _, c := range []struct {
		what string
		b    []byte
		want []api.Key
	}{
		{"no bytes", nil, nil},
		{"zeros", make([]byte, 100), nil},
		{"a name", a[:], []api.Key{a}},
		{"a name cut off at its end", a[:31], nil},
		{"a name without its first byte", a[1:], nil},
		{"a name, and a byte", cat(a, "x"), []api.Key{a}},
		{"a byte, and a name", cat("x", a), []api.Key{a}},
		{"names side by side", cat(a, b), []api.Key{a, b}},
		{"names side by side, the greater one first", cat(b, a), []api.Key{b, a}},
		{"a name twice", cat(a, a), []api.Key{a, a}},
		{"a name thrice, one between", cat(a, b, a, a), []api.Key{a, b, a, a}},
		{"names one byte apart", cat(a, "t", b, "m", l[255]), []api.Key{a, b, l[255]}},
		{"names a byte 0 apart", cat(a, []byte{0}, b), []api.Key{a, b}},
		{"the second cut off", cat(a, b[:31]), []api.Key{a}},
		{"the first cut off", cat(a[:31], b), []api.Key{b}},
		{"one over the end of the other", cat(a[:31], b, a[:20], l[299]), []api.Key{b, l[299]}},
		{"one over all of the other but its mark", cat(a[:4], b), []api.Key{b}},
		{"one over the other's number's last byte", cat(tt[:7], b), []api.Key{b}},
		{"one behind a beginning of the mark", cat("t", a, "te", b, "ter", l[2], "term", l[3]), []api.Key{a, b, l[2], l[3]}},
		{"the mark again and again", cat("termtermterm", a, "termterm"), []api.Key{a}},
		{"a term that isn't yet", late[:], nil},
		{"a term that isn't yet, among others", cat(a, late, b, named(0), l[2], named(65536)), []api.Key{a, b, l[2]}},
		{"a byte behind the number that isn't 0", cat("term", a[4:31], "\x01", b), []api.Key{b}},
		{"all", cat(slices.Concat(lists(l[0], l[1], "--", l[2], l[298])...)), []api.Key{a, b, l[2], l[298]}},
	} {
		for range 2 {
			if got := x.In(c.b); !slices.Equal(got, c.want) {
				t.Errorf("In of %s: %v, want %v", c.what, got, c.want)
			}
		}
	}
	// Of two that stand over one another, the one that is whole, wherever it begins.
	for at := range 32 {
		if got := x.In(cat(a[:at], b)); !slices.Equal(got, []api.Key{b}) {
			t.Errorf("In of %d bytes of a name, and another one: %v", at, got)
		}
		over := cat(a, make([]byte, 32))
		copy(over[at:], b[:])
		if got := x.In(over); !slices.Equal(got, []api.Key{b}) {
			t.Errorf("In of a name, %d bytes on another one over it: %v", at, got)
		}
	}
	if made(t, x, term.Nonce, "late") != late || !slices.Equal(x.In(cat(late, a)), []api.Key{late, a}) {
		t.Error("In of a term that is there now")
	}
}

// P12.2

func TestChapterTable(t *testing.T) {
	x := term.New()
	n, m := made(t, x, term.Nonce, "n"), made(t, x, term.Nonce, "m")
	p, s := made(t, x, term.Public, n), made(t, x, term.Shared, n, m)
	k := made(t, x, term.Mixed, s)
	c := made(t, x, term.Sealed, k, cat("x", m))
	q := made(t, x, term.Public, m)
	holds(t, x, lists(p, c), []api.Key{p, c}, []api.Key{n, m, s, k, q})
	holds(t, x, lists(p, c, m), []api.Key{p, c, m, s, k, q}, []api.Key{n})
	holds(t, x, lists(c, k), []api.Key{c, k, m, s, q}, []api.Key{n, p})
	// Nor does it matter in what order, or how often, or in how many lists it was seen.
	holds(t, x, lists(k, c, c), []api.Key{c, k, m, s, q}, []api.Key{n, p})
	holds(t, x, lists(cat("..", k, "..", c, "..")), []api.Key{c, k, m, s, q}, []api.Key{n, p})
}

func TestKnownOfNothing(t *testing.T) {
	x := term.New()
	n := made(t, x, term.Nonce, "n")
	for kind := 1; kind <= 8; kind++ {
		bare, text := made(t, x, kind), made(t, x, kind, "a", "", "b")
		secret := made(t, x, kind, n, n)
		yes, no := []api.Key{bare, text}, []api.Key{secret}
		if kind == term.Nonce {
			yes, no = nil, []api.Key{bare, text, secret}
		}
		holds(t, x, nil, yes, append(no, n))
		holds(t, x, lists("", "no name", n[:31]), yes, append(no, n))
	}
	w := x.Known(nil)
	for _, b := range [][]byte{nil, []byte("a"), make([]byte, 4096), n[:31], n[1:], cat("term"), cat(named(0)), cat(named(65535))} {
		if !w.Has(b) {
			t.Errorf("bytes without names aren't known: %v", b)
		}
	}
}

func TestKnownOfAName(t *testing.T) {
	x := term.New()
	l := nonces(t, x, 5)
	for i, n := range l {
		others := slices.Delete(slices.Clone(l), i, i+1)
		for _, seen := range [][][]byte{
			lists(n), lists("", n), lists(cat("x", n)), lists(cat(n, "x")), lists(cat(n, n)), lists(n[:31], n), lists(cat(n[:20], n, n[:20])),
		} {
			holds(t, x, seen, []api.Key{n}, others)
		}
		// What is cut off is none, nor is what two lists have of it.
		holds(t, x, lists(n[:31], n[1:], n[:16], n[16:]), nil, l)
	}
	holds(t, x, lists(cat(l[3], l[1], "x", l[0][:31])), []api.Key{l[1], l[3]}, []api.Key{l[0], l[2], l[4]})
}

func TestHas(t *testing.T) {
	x := term.New()
	l := nonces(t, x, 4)
	w := x.Known(lists(l[0], l[1]))
	for _, c := range []struct {
		b    []byte
		want bool
	}{
		{nil, true}, {cat("text"), true}, {cat(l[0]), true}, {cat(l[0], l[1], l[0]), true}, {cat("x", l[1], "x"), true},
		{cat(l[2]), false}, {cat(l[0], l[2]), false}, {cat(l[2], l[0]), false}, {cat(l[0], l[1], "x", l[3], "x"), false},
		{cat(l[0], l[2][:31]), true}, {cat(l[2][:31], l[0]), true}, {cat(l[2][:4], l[0]), true}, {cat(l[0][:4], l[2]), false},
		{cat(named(0), named(5), named(65536+3), l[0]), true},
	} {
		for range 2 {
			if got := w.Has(c.b); got != c.want {
				t.Errorf("Has(%q): %t", c.b, got)
			}
		}
	}
}

// Each kind, of two parts, whose names are known one, some and all. What is made is also the key of another one: that it is known shows there too.
func TestParts(t *testing.T) {
	for kind := 1; kind <= 8; kind++ {
		x := term.New()
		l := nonces(t, x, 5)
		c := made(t, x, kind, cat(l[0], "x", l[1]), cat("y", l[2], l[3]))
		cover := made(t, x, term.Sealed, c, l[4])
		for mask := range 16 {
			yes, no := []api.Key{cover}, []api.Key(nil)
			for i, n := range l[:4] {
				if mask>>i&1 != 0 {
					yes = append(yes, n)
				} else {
					no = append(no, n)
				}
			}
			seen := keys(yes)
			first, second := mask&3 == 3, mask&12 == 12
			if kind != term.Nonce && (first && second || kind == term.Shared && (first || second)) {
				yes = append(yes, c, l[4])
			} else {
				no = append(no, c, l[4])
			}
			holds(t, x, seen, yes, no)
			holds(t, x, [][]byte{slices.Concat(seen...)}, yes, no)
		}
	}
}

// keys are the names, each as bytes.
func keys(l []api.Key) [][]byte {
	b := make([][]byte, len(l))
	for i, k := range l {
		b[i] = k[:]
	}
	return b
}

func TestManyParts(t *testing.T) {
	for kind := 1; kind <= 8; kind++ {
		x := term.New()
		l := nonces(t, x, 64)
		c, _ := x.Make(kind, keys(l)...)
		holds(t, x, keys(l[:63]), pick(kind == term.Shared, c), pick(kind != term.Shared, c))
		holds(t, x, keys(l[1:]), pick(kind == term.Shared, c), pick(kind != term.Shared, c))
		holds(t, x, keys(l), pick(kind != term.Nonce, c), pick(kind == term.Nonce, c))
		holds(t, x, keys(l[40:41]), pick(kind == term.Shared, c), pick(kind != term.Shared, c))
		holds(t, x, nil, nil, []api.Key{c})
		// As many names as a part may have.
		long := cat(slices.Concat(keys(append(slices.Clone(l), l...))...))
		d := made(t, x, kind, long)
		holds(t, x, keys(l[:63]), nil, []api.Key{d, l[63]})
		holds(t, x, keys(l[1:]), nil, []api.Key{d, l[0]})
		holds(t, x, keys(l), pick(kind != term.Nonce, d), pick(kind == term.Nonce, d))
	}
}

// pick is the name, if it is to be there.
func pick(there bool, k api.Key) []api.Key {
	if there {
		return []api.Key{k}
	}
	return nil
}

func TestShared(t *testing.T) {
	x := term.New()
	l := nonces(t, x, 3)
	for _, parts := range [][]any{{""}, {l[0], ""}, {"", l[0]}, {"text", l[0]}, {l[0], l[1], "-"}, {l[0], l[1][:31]}, {l[0], named(200)}} {
		s := made(t, x, term.Shared, parts...)
		holds(t, x, nil, []api.Key{s}, l)
	}
	for _, parts := range [][]any{{l[0]}, {l[0], l[1]}, {l[0], l[0]}, {cat("-", l[0]), l[1], cat(l[2], "-")}} {
		s := made(t, x, term.Shared, parts...)
		holds(t, x, nil, nil, append([]api.Key{s}, l...))
		holds(t, x, lists(l[0]), []api.Key{s, l[0]}, l[1:])
	}
	// That it is known tells nothing of its parts.
	s := made(t, x, term.Shared, cat(l[0], l[1]), cat(l[1], l[2]))
	holds(t, x, lists(s), []api.Key{s}, l)
	holds(t, x, lists(l[1]), []api.Key{l[1]}, []api.Key{s, l[0], l[2]})
	holds(t, x, lists(l[1], l[2]), []api.Key{s, l[1], l[2]}, l[:1])
}

// Of no kind does its name tell a part, but of what is sealed, by its key.
func TestOneWay(t *testing.T) {
	x := term.New()
	n, m := made(t, x, term.Nonce, "n"), made(t, x, term.Nonce, "m")
	for kind := 1; kind <= 8; kind++ {
		one, two, all := made(t, x, kind, n), made(t, x, kind, n, m), made(t, x, kind, cat(n, m))
		holds(t, x, lists(one, two, all), []api.Key{one, two, all}, []api.Key{n, m})
		yes, no := []api.Key{n}, []api.Key{m}
		if kind == term.Sealed {
			yes, no = []api.Key{n, m}, nil
		}
		holds(t, x, lists(one, two, all, n), yes, no)
		holds(t, x, lists(two, m), []api.Key{m}, []api.Key{n})
	}
}

func TestSealed(t *testing.T) {
	x := term.New()
	l := nonces(t, x, 6)
	k, j, n, m := l[0], l[1], l[2], l[3]
	for _, c := range []struct {
		what  string
		parts []any
		need  []api.Key
		gives []api.Key
	}{
		{"a key, a text", []any{k, n}, []api.Key{k}, []api.Key{n}},
		{"a key, a text of several names", []any{k, cat("x", n, "y", m, m)}, []api.Key{k}, []api.Key{n, m}},
		{"two keys in one part", []any{cat(k, "x", j), n}, []api.Key{k, j}, []api.Key{n}},
		{"a key that is no name", []any{"key", cat(n, m)}, nil, []api.Key{n, m}},
		{"an empty key", []any{"", n}, nil, []api.Key{n}},
		{"half a key", []any{k[:31], n}, nil, []api.Key{n}},
		{"a key, no text", []any{k}, []api.Key{k}, nil},
		{"a key, an empty text", []any{k, ""}, []api.Key{k}, nil},
		{"a key, a text, and more", []any{k, n, m}, []api.Key{k}, []api.Key{n}},
		{"a key, an empty text, and more", []any{k, "", cat(n, m)}, []api.Key{k}, nil},
		{"a key within the text", []any{k, cat(k, n)}, []api.Key{k}, []api.Key{n}},
	} {
		s := made(t, x, term.Sealed, c.parts...)
		var rest []api.Key
		for _, y := range l {
			if !slices.Contains(c.need, y) && !slices.Contains(c.gives, y) {
				rest = append(rest, y)
			}
		}
		holds(t, x, append(keys(c.need), s[:]), slices.Concat([]api.Key{s}, c.need, c.gives), rest)
		// By its key alone, unseen, it tells nothing.
		holds(t, x, keys(c.need), c.need, slices.Concat(c.gives, rest))
		for i := range c.need {
			less := append(slices.Clone(c.need[:i]), c.need[i+1:]...)
			holds(t, x, append(keys(less), s[:]), append(less, s), slices.Concat(c.gives, rest, c.need[i:i+1]))
		}
	}
	// Its text doesn't tell the key, nor does another key open it.
	s := made(t, x, term.Sealed, k, n)
	holds(t, x, lists(s, n), []api.Key{s, n}, []api.Key{k, j, m})
	holds(t, x, lists(s, j, m), []api.Key{s, j, m}, []api.Key{k, n})
	// Who makes it has all of it.
	holds(t, x, lists(k, n), []api.Key{s}, []api.Key{j, m})
}

// The key of one is known only by what another one holds, which is sealed by what a third one holds.
func TestSealedWithinOneAnother(t *testing.T) {
	x := term.New()
	l := nonces(t, x, 4)
	a := made(t, x, term.Sealed, l[0], l[1])
	b := made(t, x, term.Sealed, l[1], cat("..", l[2]))
	c := made(t, x, term.Sealed, l[2], l[3])
	holds(t, x, lists(a, b, c), nil, l)
	holds(t, x, lists(a, b, c, l[0]), l, nil)
	holds(t, x, lists(c, b, a, l[0]), l, nil)
	holds(t, x, lists(a, c, l[0]), l[:2], l[2:])
	holds(t, x, lists(a, b, c, l[1]), l[1:], l[:1])
	// One stands in the other.
	d := made(t, x, term.Sealed, l[3], cat(a, b))
	holds(t, x, lists(d, l[0]), []api.Key{d, l[0]}, slices.Concat(l[1:], []api.Key{a, b}))
	holds(t, x, lists(d, l[3]), []api.Key{d, l[3], a, b}, l[:3])
	holds(t, x, lists(d, l[3], l[0]), slices.Concat(l, []api.Key{a, b}), nil)
	holds(t, x, lists(a, l[0], l[3]), []api.Key{a, l[0], l[1], l[3]}, []api.Key{l[2], b, d})
	// What is known of both, is a key: a mix of what two hold.
	k := made(t, x, term.Mixed, l[1], l[3])
	n := made(t, x, term.Nonce, "n")
	e := made(t, x, term.Sealed, k, n)
	holds(t, x, lists(e, a, l[0]), []api.Key{l[1]}, []api.Key{k, n, l[2], l[3]})
	holds(t, x, lists(e, a, l[0], b, c), []api.Key{k, n, l[3]}, nil)
	// A term that is known, whose name stands nowhere, opens too.
	s := made(t, x, term.Public, l[2])
	f := made(t, x, term.Sealed, s, cat(made(t, x, term.Nonce, "f")))
	holds(t, x, lists(f, l[2]), []api.Key{s, named(uint32(x.Len() - 1))}, l[:2])
}

// What locks itself in stays there: each one's key is in the other.
func TestSealedRoundAbout(t *testing.T) {
	x := term.New()
	l := nonces(t, x, 2)
	a, b := made(t, x, term.Sealed, l[0], l[1]), made(t, x, term.Sealed, l[1], l[0])
	self := made(t, x, term.Sealed, l[0], l[0])
	holds(t, x, lists(a, b, self), []api.Key{a, b, self}, l)
	holds(t, x, lists(a, b, l[0]), l, nil)
	holds(t, x, lists(a, b, l[1]), l, nil)
}

// In the parts of a term the name of one that is made later, or its own, doesn't count.
func TestLaterNamesInParts(t *testing.T) {
	for kind := 2; kind <= 8; kind++ {
		x := term.New()
		n := made(t, x, term.Nonce, "n")
		own, later := named(2), named(5)
		self := made(t, x, kind, own, cat(own, named(3)))
		early := made(t, x, kind, later, cat("x", later))
		// Beside one that counts.
		both := made(t, x, kind, cat(n, later), cat(later, n))
		if got := made(t, x, term.Nonce, "later"); got != later {
			t.Fatal(got)
		}
		after := made(t, x, kind, later, cat("x", later, later))
		holds(t, x, nil, []api.Key{self, early}, []api.Key{n, later, both, after})
		holds(t, x, lists(n), []api.Key{self, early, both}, []api.Key{later, after})
		holds(t, x, lists(later), []api.Key{self, early, after}, []api.Key{n, both})
		is(t, x, early, kind, later[:], cat("x", later))
	}
	// What is sealed doesn't tell it either, nor needs it for a key.
	x := term.New()
	n := made(t, x, term.Nonce, "n")
	later := named(4)
	a := made(t, x, term.Sealed, n, cat(later, n))
	b := made(t, x, term.Sealed, later, n)
	made(t, x, term.Nonce, "later")
	holds(t, x, lists(a, n), []api.Key{a, n}, []api.Key{later})
	holds(t, x, lists(b), []api.Key{b, n}, []api.Key{later})
	// But in what was seen all names of now count.
	holds(t, x, lists(cat(later, a)), []api.Key{later, a}, []api.Key{n})
}

func TestHasByTheNamesOfItsMoment(t *testing.T) {
	x := term.New()
	n, m := made(t, x, term.Nonce, "n"), made(t, x, term.Nonce, "m")
	later, last := named(3), named(4)
	w, v := x.Known(lists(n)), x.Known(lists(n, later))
	asks := func(w *term.Known, b []byte, want bool) {
		t.Helper()
		if got := w.Has(b); got != want {
			t.Errorf("Has(%q): %t", b, got)
		}
	}
	for i := range 4 {
		for _, k := range []*term.Known{w, v} {
			asks(k, cat(n), true)
			asks(k, cat(m), false)
			// These were no names then.
			asks(k, cat(later), true)
			asks(k, cat(last), true)
			asks(k, cat(later, n, last), true)
			asks(k, cat(later, m), false)
		}
		switch i {
		case 0:
			made(t, x, term.Nonce, "later")
		case 1:
			made(t, x, term.Sealed, n, m)
		case 2:
			made(t, x, term.Public, m)
		}
	}
	holds(t, x, lists(n), []api.Key{n}, []api.Key{m, later, last})
	holds(t, x, lists(n, later), []api.Key{n, later}, []api.Key{m, last})
	holds(t, x, lists(n, last), []api.Key{n, m, last, named(5)}, []api.Key{later})
}

// Rows in which each one is known only by the one ahead of it, in either order: there must be no end of steps.
func TestLongRows(t *testing.T) {
	const long = 20000
	for _, up := range []bool{false, true} {
		x := term.New()
		l := nonces(t, x, long)
		seen := lists(l[0])
		for i := range long - 1 {
			if !up {
				i = long - 2 - i
			}
			c := made(t, x, term.Sealed, l[i], l[i+1])
			seen = append(seen, c[:])
		}
		holds(t, x, seen, l, nil)
		holds(t, x, seen[1:], nil, l)
	}
	// One within the other, and each made of the one ahead.
	x := term.New()
	n := made(t, x, term.Nonce, "n")
	all := []api.Key{n}
	for range 2 * long {
		all = append(all, made(t, x, term.Sealed, "", all[len(all)-1]))
	}
	holds(t, x, lists(all[len(all)-1]), all, nil)
	all = all[:1]
	for range 20000 {
		all = append(all, made(t, x, term.Public, all[len(all)-1]))
	}
	holds(t, x, lists(n), all, nil)
	holds(t, x, lists(all[len(all)-1]), all[len(all)-1:], all[:len(all)-1])
}

// P12.3, and P12.2 beside the words put down step by step

// thing is a term, as a model has it.
type thing struct {
	kind  int
	parts [][]byte
}

// model is a table: the number n stands at n - 1.
type model []thing

// standing are the numbers of the names that stand in b, of those below that one.
func standing(b []byte, below int) (l []int) {
	for at := 0; at+32 <= len(b); at++ {
		for n := 1; n < below; n++ {
			if named(uint32(n)) == api.Key(b[at:at+32]) {
				l = append(l, n)
				at += 31
				break
			}
		}
	}
	return l
}

// within tells whether all names in b are among the known.
func within(known map[int]bool, b []byte, below int) bool {
	for _, n := range standing(b, below) {
		if !known[n] {
			return false
		}
	}
	return true
}

// known is what is known of seen, found by asking again and again; heard is what is known by the first two rules.
func (m model) known(seen [][]byte) (known, heard map[int]bool) {
	known, heard = map[int]bool{}, map[int]bool{}
	hear := func(b []byte, below int) {
		for _, n := range standing(b, below) {
			known[n], heard[n] = true, true
		}
	}
	for _, b := range seen {
		hear(b, len(m)+1)
	}
	for size := -1; size < len(known)+len(heard); {
		size = len(known) + len(heard)
		for i, x := range m {
			n := i + 1
			if x.kind == term.Sealed && heard[n] && len(x.parts) > 1 && within(known, x.parts[0], n) {
				hear(x.parts[1], n)
			}
			if m.makes(known, n) {
				known[n] = true
			}
		}
	}
	return known, heard
}

// makes tells whether the third rule makes the name of that number.
func (m model) makes(known map[int]bool, n int) bool {
	x := m[n-1]
	if x.kind == term.Nonce {
		return false
	}
	all, one := true, len(x.parts) == 0
	for _, p := range x.parts {
		if within(known, p, n) {
			one = true
		} else {
			all = false
		}
	}
	return all || x.kind == term.Shared && one
}

// part is a list of bytes for a table of so many terms: of names, some of terms that aren't yet, of pieces of names, of other bytes.
func (d *drawer) part(count int) (b []byte) {
	for d.below(4) > 0 {
		switch k := named(uint32(1 + d.below(count+1))); d.below(12) {
		case 0:
			b = append(b, k[:d.below(32)]...)
		case 1:
			b = append(b, d.text(d.below(5))...)
		case 2:
			k = named(uint32(count + d.below(4)))
			b = append(b, k[:]...)
		case 3:
			k[8+d.below(24)]++
			b = append(b, k[:]...)
		default:
			b = append(b, k[:]...)
		}
	}
	return b
}

// drawn is a table, and a model of it.
func (d *drawer) drawn(t *testing.T, count int) (*term.Table, model) {
	t.Helper()
	x, m := term.New(), model{}
	for len(m) < count {
		kind := 1 + d.below(8)
		if d.below(3) == 0 {
			kind = []int{term.Nonce, term.Sealed}[d.below(2)]
		}
		parts := make([][]byte, min(d.below(5), 1+d.below(3)))
		for i := range parts {
			parts[i] = d.part(len(m))
		}
		want, ahead := len(m)+1, slices.IndexFunc(m, func(y thing) bool { return y.kind == kind && slices.EqualFunc(y.parts, parts, bytes.Equal) })
		if ahead >= 0 {
			want = ahead + 1
		} else {
			m = append(m, thing{kind, parts})
		}
		if k, ok := x.Make(kind, parts...); !ok || k != named(uint32(want)) || x.Len() != len(m) {
			t.Fatalf("Make(%d, %q): %v %t, want the number %d of %d", kind, parts, k, ok, want, len(m))
		}
	}
	return x, m
}

// asked holds what is known by the table against the model's.
func (m model) asked(t *testing.T, w *term.Known, d *drawer, known map[int]bool, seen [][]byte) {
	t.Helper()
	for n := 1; n <= len(m); n++ {
		if k := named(uint32(n)); w.Has(k[:]) != known[n] {
			t.Fatalf("of %q in %v: the number %d is known: %t", seen, m, n, !known[n])
		}
	}
	for range 5 {
		if b := d.part(len(m)); w.Has(b) != within(known, b, len(m)+1) {
			t.Fatalf("of %q in %v: Has(%q): %t", seen, m, b, w.Has(b))
		}
	}
}

func TestDrawnTables(t *testing.T) {
	d := drawer(1)
	made, heard, not := 0, 0, 0
	for round := range 4000 {
		x, m := d.drawn(t, 1+round%18)
		for range 3 {
			var seen [][]byte
			for d.below(4) > 0 {
				seen = append(seen, d.part(len(m)))
			}
			known, opened := m.known(seen)
			w := x.Known(seen)
			m.asked(t, w, &d, known, seen)
			made, heard, not = made+len(known)-len(opened), heard+len(opened), not+len(m)-len(known)
			var all [][]byte
			for n := 1; n <= len(m); n++ {
				if k := named(uint32(n)); known[n] {
					all = append(all, k[:])
				}
			}
			// Who sees all that is known knows no more.
			m.asked(t, x.Known(append(all, seen...)), &d, known, seen)
			m.asked(t, x.Known(all), &d, known, seen)
			// Who has seen more knows no less, of each one's names.
			v := x.Known(append([][]byte{d.part(len(m))}, seen...))
			for _, b := range append(all, slices.Concat(all...)) {
				if !v.Has(b) {
					t.Fatalf("in %v who has seen more than %q knows less: %q", m, seen, b)
				}
			}
			// Nothing was changed by asking.
			m.asked(t, w, &d, known, seen)
		}
	}
	if made < 20000 || heard < 20000 || not < 20000 {
		t.Errorf("known by being made %d, by being heard %d, not known %d", made, heard, not)
	}
}

func TestDrawnBytes(t *testing.T) {
	d := drawer(2)
	for round := range 2000 {
		x, m := d.drawn(t, round%12)
		b := slices.Concat(d.part(len(m)), d.part(len(m)), d.part(len(m)))
		// A name over whatever is there.
		if len(b) > 40 && round%2 == 0 {
			k := named(uint32(1 + d.below(len(m)+1)))
			copy(b[d.below(len(b)-32):], k[:])
		}
		var want []api.Key
		for _, n := range standing(b, len(m)+1) {
			want = append(want, named(uint32(n)))
		}
		if got := x.In(b); !slices.Equal(got, want) {
			t.Fatalf("In(%q) of %d terms: %v, want %v", b, len(m), got, want)
		}
		for n, y := range m {
			is(t, x, named(uint32(n+1)), y.kind, y.parts...)
		}
	}
}

func TestNamesAreForEver(t *testing.T) {
	x := term.New()
	l := nonces(t, x, 500)
	x.Known(keys(l))
	for i, n := range l {
		p, q := made(t, x, term.Public, n), made(t, x, term.Public, p2(i))
		if p == q || p != named(uint32(501+2*i)) || q != named(uint32(502+2*i)) {
			t.Fatalf("%v, %v", p, q)
		}
		is(t, x, n, term.Nonce, []byte{byte(i), byte(i >> 8)})
	}
	for i, n := range l {
		if made(t, x, term.Nonce, []byte{byte(i), byte(i >> 8)}) != n || made(t, x, term.Public, n) != named(uint32(501+2*i)) {
			t.Fatalf("the term number %d has another name", i+1)
		}
	}
	if x.Len() != 1500 {
		t.Errorf("Len: %d", x.Len())
	}
}

// p2 is a text that is like no name, of each number another one.
func p2(n int) []byte { return []byte{2, byte(n), byte(n >> 8)} }

// Rules that hold everywhere

func TestWhatIsHandedInIsLeft(t *testing.T) {
	x := term.New()
	n := made(t, x, term.Nonce, "n")
	room := cat("abc", "room behind it", n, n)
	before := slices.Clone(room)
	parts := [][]byte{room[:3], room[3:3], room[17:49], room[17:20]}
	list := slices.Clone(parts)
	c, ok := x.Make(term.Mixed, list[:3]...)
	w := x.Known(list[:3])
	l := x.In(room)
	if !ok || len(l) != 2 || !w.Has(room) {
		t.Fatalf("Make: %t, In: %v, Has: %t", ok, l, w.Has(room))
	}
	if !bytes.Equal(room, before) || !slices.EqualFunc(list, parts, func(a, b []byte) bool { return &a[:1][0] == &b[:1][0] && len(a) == len(b) }) {
		t.Fatal("what was handed in was changed")
	}
	// Nor is it kept.
	clear(room)
	clear(list)
	is(t, x, c, term.Mixed, []byte("abc"), nil, n[:])
	if k, ok := x.Make(term.Mixed, []byte("abc"), nil, n[:]); k != c || !ok || x.Len() != 2 {
		t.Errorf("the same once more: %v %t", k, ok)
	}
	if !w.Has(n[:]) || !w.Has(c[:]) || !slices.Equal(l, []api.Key{n, n}) {
		t.Error("what was answered was changed")
	}
}

func TestAnswersAreNewMemory(t *testing.T) {
	x := term.New()
	n := made(t, x, term.Nonce, "n")
	c := made(t, x, term.Sealed, "one", cat("two", n), "", "three")
	want := lists("one", cat("two", n), "", "three")
	_, a, _ := x.Of(c)
	_, b, _ := x.Of(c)
	for i := range a {
		// What is put behind a part doesn't come into the next one.
		_ = append(a[i], "-------------------"...)
		if !bytes.Equal(a[i], want[i]) {
			t.Fatalf("the part %d: %q", i, a[i])
		}
		clear(a[i])
	}
	_ = append(a[:1], []byte("other"))
	is(t, x, c, term.Sealed, want...)
	if !slices.EqualFunc(b, want, bytes.Equal) {
		t.Errorf("another answer was changed: %q", b)
	}
	l, m := x.In(cat(n, c)), x.In(cat(n, c))
	clear(l)
	if !slices.Equal(m, []api.Key{n, c}) || !slices.Equal(x.In(cat(n, c)), m) {
		t.Error("another answer of In was changed")
	}
	if k := made(t, x, term.Sealed, "one", cat("two", n), "", "three"); k != c {
		t.Errorf("the same once more: %v", k)
	}
	holds(t, x, lists(c), []api.Key{c, n}, nil)
}

// The same done twice answers the same, and what refuses or asks changes nothing.
func TestTheSameAgain(t *testing.T) {
	d := drawer(3)
	for range 200 {
		x, m := d.drawn(t, 12)
		y := term.New()
		for i, z := range m {
			y.Make(0, z.parts...)
			y.Make(term.Nonce, make([]byte, 5000))
			y.Of(named(uint32(i + 1)))
			y.In(d.part(i))
			y.Known([][]byte{d.part(i)}).Has(d.part(i))
			if k, ok := y.Make(z.kind, z.parts...); !ok || k != named(uint32(i+1)) {
				t.Fatalf("Make(%d, %q): %v %t, want the number %d", z.kind, z.parts, k, ok, i+1)
			}
		}
		seen := [][]byte{d.part(12), d.part(12)}
		v, w := x.Known(seen), y.Known(seen)
		for n := range uint32(14) {
			if k := named(n); v.Has(k[:]) != w.Has(k[:]) {
				t.Fatalf("of %q in %v: the number %d is known once", seen, m, n)
			}
		}
	}
}
