package octet_test

import (
	"bytes"
	"math"
	"slices"
	"strings"
	"testing"

	"missive/api"
	"missive/octet"
)

// row is n bytes, no two neighbours alike, so that one that is moved or left out shows.
func row(n, from int) []byte {
	b := make([]byte, n)
	for i := range b {
		b[i] = byte(from + 7*i)
	}
	return b
}

// rows are as many pieces, each of size bytes.
func rows(pieces, size int) [][]byte {
	l := make([][]byte, pieces)
	for i := range l {
		l[i] = row(size, i)
	}
	return l
}

// written is the text of a list, put down piece by piece as the words have it.
func written(l [][]byte) []byte {
	var text strings.Builder
	text.WriteByte(byte(len(l)))
	for _, p := range l {
		text.WriteByte(byte(len(p) / 256))
		text.WriteByte(byte(len(p) % 256))
		text.Write(p)
	}
	return []byte(text.String())
}

// wrong tells what Split must say of b: the place at which each thing is asked for goes from left to right.
func wrong(b []byte) api.Errno {
	if len(b) == 0 {
		return api.ErrEnd
	}
	if b[0] > 64 {
		return api.ErrFull
	}
	at := 1
	for range b[0] {
		if at+2 > len(b) {
			return api.ErrEnd
		}
		n := 256*int(b[at]) + int(b[at+1])
		if n > 4096 {
			return api.ErrLong
		}
		at += 2 + n
		if at > len(b) {
			return api.ErrEnd
		}
	}
	if at < len(b) {
		return api.ErrMore
	}
	return api.OK
}

func alike(a, b [][]byte) bool { return slices.EqualFunc(a, b, bytes.Equal) }

// lists are some that may be joined: with no piece, with empty ones, with the greatest ones, with as many as there may be.
func lists() [][][]byte {
	return [][][]byte{
		nil,
		{},
		{nil},
		{{}},
		{{0}},
		{{0, 0}},
		{{}, {}},
		{nil, {}, nil},
		{[]byte("a"), nil, []byte("bc")},
		{[]byte("bc"), []byte("a"), nil},
		{[]byte("abc")},
		{[]byte("ab"), []byte("c")},
		{[]byte("a"), []byte("bc")},
		{{1, 0, 1, 97}, {0}, {65}},
		{row(255, 1)},
		{row(256, 1)},
		{row(257, 1), row(255, 2), row(256, 3)},
		{row(4095, 5)},
		{row(4096, 5)},
		{nil, row(4096, 5), row(1, 6)},
		rows(63, 3),
		rows(64, 0),
		rows(64, 1),
		rows(64, 4096),
	}
}

// P2.1

func TestPut(t *testing.T) {
	for _, c := range []struct {
		n    uint64
		size int
		want []byte
	}{
		{258, 2, []byte{1, 2}},
		{0, 1, []byte{0}},
		{0, 8, make([]byte, 8)},
		{1, 1, []byte{1}},
		{1, 3, []byte{0, 0, 1}},
		{255, 1, []byte{255}},
		{256, 2, []byte{1, 0}},
		{65535, 2, []byte{255, 255}},
		{65536, 3, []byte{1, 0, 0}},
		{0x010203, 5, []byte{0, 0, 1, 2, 3}},
		{0x0102030405060708, 8, []byte{1, 2, 3, 4, 5, 6, 7, 8}},
		{0xf0e0d0c0b0a09080, 8, []byte{0xf0, 0xe0, 0xd0, 0xc0, 0xb0, 0xa0, 0x90, 0x80}},
		{1 << 63, 8, []byte{128, 0, 0, 0, 0, 0, 0, 0}},
		{math.MaxUint64, 8, bytes.Repeat([]byte{255}, 8)},
	} {
		if b, ok := octet.Put(c.n, c.size); !ok || !bytes.Equal(b, c.want) {
			t.Errorf("Put(%d, %d): %v %t, want %v", c.n, c.size, b, ok, c.want)
		}
	}
}

func TestPutOfWhatHasJustRoomAndJustNone(t *testing.T) {
	for size := 1; size <= 8; size++ {
		// At 8 bytes the shift leaves 0, and 0 less 1 is the greatest number of all.
		greatest := uint64(1)<<(8*size) - 1
		if b, ok := octet.Put(greatest, size); !ok || !bytes.Equal(b, bytes.Repeat([]byte{255}, size)) {
			t.Errorf("Put(%d, %d): %v %t", greatest, size, b, ok)
		}
		if size == 8 {
			continue
		}
		for _, n := range []uint64{greatest + 1, greatest + 2, 1 << 63, math.MaxUint64} {
			if b, ok := octet.Put(n, size); ok || len(b) != 0 {
				t.Errorf("Put(%d, %d): %v %t", n, size, b, ok)
			}
		}
	}
}

func TestPutOfASizeThatMayNotBe(t *testing.T) {
	for _, size := range []int{0, -1, -2, -8, 9, 10, 16, 64, 256, 257, 1 << 32, 1<<32 + 1, math.MinInt, math.MinInt + 1, math.MaxInt} {
		for _, n := range []uint64{0, 1, 255, 258, math.MaxUint64} {
			if b, ok := octet.Put(n, size); ok || len(b) != 0 {
				t.Errorf("Put(%d, %d): %v %t", n, size, b, ok)
			}
		}
	}
}

func TestGet(t *testing.T) {
	for _, c := range []struct {
		b    []byte
		want uint64
	}{
		{[]byte{1, 2}, 258},
		{[]byte{0}, 0},
		{[]byte{255}, 255},
		{[]byte{1, 0}, 256},
		{[]byte{0, 0, 7}, 7},
		{[]byte{255, 255}, 65535},
		{[]byte{1, 2, 3, 4, 5, 6, 7}, 0x01020304050607},
		{[]byte{1, 2, 3, 4, 5, 6, 7, 8}, 0x0102030405060708},
		{[]byte{128, 0, 0, 0, 0, 0, 0, 0}, 1 << 63},
		{make([]byte, 8), 0},
		{bytes.Repeat([]byte{255}, 8), math.MaxUint64},
	} {
		if n, ok := octet.Get(c.b); !ok || n != c.want {
			t.Errorf("Get(%v): %d %t, want %d", c.b, n, ok, c.want)
		}
	}
}

func TestGetOfNoneAndOfTooMany(t *testing.T) {
	for _, b := range [][]byte{nil, {}, make([]byte, 0, 8), make([]byte, 9), row(9, 1), append(make([]byte, 8), 1), row(16, 1), row(4096, 1)} {
		if n, ok := octet.Get(b); ok || n != 0 {
			t.Errorf("Get of %d bytes: %d %t", len(b), n, ok)
		}
	}
}

func TestGetOfPut(t *testing.T) {
	for size := 1; size <= 8; size++ {
		for _, b := range [][]byte{row(size, 1), row(size, 200), make([]byte, size), bytes.Repeat([]byte{255}, size)} {
			n, ok := octet.Get(b)
			back, there := octet.Put(n, size)
			if !ok || !there || !bytes.Equal(back, b) {
				t.Errorf("%v: %d %t, put again: %v %t", b, n, ok, back, there)
			}
		}
	}
}

// P2.2

func TestJoin(t *testing.T) {
	for _, c := range []struct {
		l    [][]byte
		want []byte
	}{
		{nil, []byte{0}},
		{[][]byte{nil}, []byte{1, 0, 0}},
		{[][]byte{{}, {}}, []byte{2, 0, 0, 0, 0}},
		{[][]byte{[]byte("a"), []byte(""), []byte("bc")}, []byte{3, 0, 1, 97, 0, 0, 0, 2, 98, 99}},
		{[][]byte{{0}, {255}}, []byte{2, 0, 1, 0, 0, 1, 255}},
	} {
		if b, ok := octet.Join(c.l...); !ok || !bytes.Equal(b, c.want) {
			t.Errorf("Join(%v): %v %t, want %v", c.l, b, ok, c.want)
		}
	}
	if b, ok := octet.Join(); !ok || !bytes.Equal(b, []byte{0}) {
		t.Errorf("Join(): %v %t", b, ok)
	}
}

func TestJoinWritesLengthsTheGreaterByteFirst(t *testing.T) {
	for n, want := range map[int][]byte{255: {1, 0, 255}, 256: {1, 1, 0}, 257: {1, 1, 1}, 4095: {1, 15, 255}, 4096: {1, 16, 0}} {
		p := row(n, 3)
		if b, ok := octet.Join(p); !ok || !bytes.Equal(b, append(want, p...)) {
			t.Errorf("Join of %d bytes: %d bytes, %t", n, len(b), ok)
		}
	}
}

func TestJoinOfAll(t *testing.T) {
	for i, l := range lists() {
		if b, ok := octet.Join(l...); !ok || !bytes.Equal(b, written(l)) {
			t.Errorf("Join of the list %d: %d bytes, %t", i, len(b), ok)
		}
	}
}

func TestJoinOfTooMany(t *testing.T) {
	for _, l := range [][][]byte{rows(65, 0), rows(65, 1), make([][]byte, 65), rows(66, 4096), rows(255, 0), rows(256, 0), rows(257, 1), rows(320, 0)} {
		if b, ok := octet.Join(l...); ok || len(b) != 0 {
			t.Errorf("Join of %d pieces: %d bytes, %t", len(l), len(b), ok)
		}
	}
}

func TestJoinOfALongPiece(t *testing.T) {
	for _, size := range []int{4097, 4098, 8192, 65535, 65536, 65537, 1 << 20} {
		long := row(size, 1)
		for _, l := range [][][]byte{{long}, {long, nil}, {nil, long}, {row(3, 1), long, row(4096, 2)}, append(rows(63, 2), long)} {
			if b, ok := octet.Join(l...); ok || len(b) != 0 {
				t.Errorf("Join of %d pieces, one of %d bytes: %d bytes, %t", len(l), size, len(b), ok)
			}
		}
	}
}

// P2.3

func TestSplit(t *testing.T) {
	for _, c := range []struct {
		text string
		want []string
	}{
		{"\x00", nil},
		{"\x01\x00\x00", []string{""}},
		{"\x02\x00\x00\x00\x00", []string{"", ""}},
		{"\x03\x00\x01a\x00\x00\x00\x02bc", []string{"a", "", "bc"}},
		{"\x01\x01\x02" + strings.Repeat("x", 258), []string{strings.Repeat("x", 258)}},
		{"\x01\x10\x00" + strings.Repeat("y", 4096), []string{strings.Repeat("y", 4096)}},
		{"\x40" + strings.Repeat("\x00\x01z", 64), strings.Split(strings.Repeat("z", 64), "")},
	} {
		l, e := octet.Split([]byte(c.text))
		if e != api.OK || !slices.EqualFunc(l, c.want, func(p []byte, s string) bool { return string(p) == s }) {
			t.Errorf("Split(%.20q): %v %d, want %d pieces", c.text, l, e, len(c.want))
		}
	}
}

func TestSplitRefuses(t *testing.T) {
	long := strings.Repeat("x", 4097)
	for _, c := range []struct {
		name, text string
		want       api.Errno
	}{
		{"no byte", "", api.ErrEnd},
		{"one piece too many, and no more", "\x41", api.ErrFull},
		{"one piece too many, all there", "\x41" + strings.Repeat("\x00\x00", 65), api.ErrFull},
		{"one piece too many, the first too long", "\x41\x10\x01", api.ErrFull},
		{"255 pieces", "\xff" + strings.Repeat("\x00\x00", 255), api.ErrFull},
		{"as many pieces as may be, none there", "\x40", api.ErrEnd},
		{"as many pieces as may be, one not there", "\x40" + strings.Repeat("\x00\x00", 63), api.ErrEnd},
		{"as many pieces as may be, and a byte", "\x40" + strings.Repeat("\x00\x00", 64) + "\x00", api.ErrMore},
		{"no length", "\x01", api.ErrEnd},
		{"half a length", "\x01\x00", api.ErrEnd},
		{"half a length, that is too great already", "\x01\xff", api.ErrEnd},
		{"one byte too long, none there", "\x01\x10\x01", api.ErrLong},
		{"one byte too long, all there", "\x01\x10\x01" + long, api.ErrLong},
		{"the greatest length", "\x01\xff\xff", api.ErrLong},
		{"as long as may be, none there", "\x01\x10\x00", api.ErrEnd},
		{"as long as may be, one byte not there", "\x01\x10\x00" + long[:4095], api.ErrEnd},
		{"as long as may be, and a byte", "\x01\x10\x00" + long, api.ErrMore},
		{"one byte not there", "\x01\x00\x02a", api.ErrEnd},
		{"no byte of one there", "\x01\x00\x01", api.ErrEnd},
		{"the second without a length", "\x02\x00\x01a", api.ErrEnd},
		{"the second with half a length", "\x02\x00\x01a\x10", api.ErrEnd},
		{"the second too long", "\x02\x00\x01a\x10\x01", api.ErrLong},
		{"the second not there whole", "\x02\x00\x00\x00\x03ab", api.ErrEnd},
		{"the first too long, ahead of the second, not there", "\x02\x10\x01", api.ErrLong},
		{"the first not there, ahead of the second, too long", "\x02\x00\x09\x10\x01", api.ErrEnd},
		{"the second too long, ahead of the third, not there", "\x03\x00\x00\x20\x00\x00", api.ErrLong},
		{"no piece, and a byte", "\x00\x00", api.ErrMore},
		{"no piece, and a whole text", "\x00\x01\x00\x00", api.ErrMore},
		{"a piece, and a byte", "\x01\x00\x01aa", api.ErrMore},
		{"an empty piece, and another", "\x01\x00\x00\x00\x00", api.ErrMore},
		{"a piece, and one too long", "\x01\x00\x00\x10\x01", api.ErrMore},
	} {
		if l, e := octet.Split([]byte(c.text)); e != c.want || len(l) != 0 {
			t.Errorf("%s: %v %d, want %d", c.name, l, e, c.want)
		}
	}
}

func TestSplitByEachNumberOfPieces(t *testing.T) {
	for count := range 256 {
		want := api.OK
		if count > 64 {
			want = api.ErrFull
		}
		text := append([]byte{byte(count)}, make([]byte, 2*count)...)
		if l, e := octet.Split(text); e != want || e == api.OK && len(l) != count || e != api.OK && len(l) != 0 {
			t.Errorf("%d pieces: %d of them, %d, want %d", count, len(l), e, want)
		}
	}
}

func TestSplitByEachLength(t *testing.T) {
	text := append([]byte{1, 0, 0}, row(65535, 1)...)
	for n := range 65536 {
		text[1], text[2] = byte(n/256), byte(n%256)
		l, e := octet.Split(text[:3+n])
		if n > 4096 {
			if e != api.ErrLong || len(l) != 0 {
				t.Fatalf("a piece of %d bytes: %d pieces, %d", n, len(l), e)
			}
		} else if e != api.OK || !alike(l, [][]byte{text[3 : 3+n]}) {
			t.Fatalf("a piece of %d bytes: %d pieces, %d", n, len(l), e)
		}
	}
}

func TestSplitOfAllShortTexts(t *testing.T) {
	texts := [][]byte{{}}
	for len(texts[0]) <= 5 {
		var longer [][]byte
		for _, b := range texts {
			l, e := octet.Split(b)
			if e != wrong(b) {
				t.Fatalf("Split(%v): %v %d, want %d", b, l, e, wrong(b))
			}
			if e != api.OK && len(l) != 0 {
				t.Fatalf("Split(%v): %d, and yet %v", b, e, l)
			}
			for _, x := range []byte{0, 1, 2, 3, 16, 64, 65, 255} {
				longer = append(longer, append(slices.Clone(b), x))
			}
		}
		texts = longer
	}
}

// P2.4

func TestKey(t *testing.T) {
	for n := range 100 {
		b := row(n, 11)
		k, ok := octet.Key(b)
		if n == 32 {
			if !ok || !bytes.Equal(k[:], b) {
				t.Errorf("Key of 32 bytes: %v %t", k, ok)
			}
		} else if ok || k != (api.Key{}) {
			t.Errorf("Key of %d bytes: %v %t", n, k, ok)
		}
	}
}

func TestKeyOfNoneAndOfMany(t *testing.T) {
	for _, b := range [][]byte{nil, {}, row(31, 1)[:31:31], make([]byte, 31, 32), make([]byte, 0, 32), row(33, 1), row(64, 1), row(4096, 1), row(32+256, 1)} {
		if k, ok := octet.Key(b); ok || k != (api.Key{}) {
			t.Errorf("Key of %d bytes: %v %t", len(b), k, ok)
		}
	}
	if k, ok := octet.Key(row(64, 9)[:32]); !ok || !bytes.Equal(k[:], row(32, 9)) {
		t.Errorf("Key of 32 bytes with room behind them: %v %t", k, ok)
	}
	if k, ok := octet.Key(make([]byte, 32)); !ok || k != (api.Key{}) {
		t.Errorf("Key of zeros: %v %t", k, ok)
	}
}

// P2.5

func TestSplitOfJoin(t *testing.T) {
	for i, l := range lists() {
		b, _ := octet.Join(l...)
		if back, e := octet.Split(b); e != api.OK || !alike(back, l) {
			t.Errorf("the list %d: %d pieces of %d, %d", i, len(back), len(l), e)
		}
	}
}

func TestJoinOfSplit(t *testing.T) {
	taken := 0
	for a := range byte(4) {
		for b := range byte(4) {
			for c := range byte(4) {
				for d := range byte(4) {
					for _, text := range [][]byte{{a}, {a, b, c}, {a, b, c, d}, {a, 0, b, 0, c}, {a, 0, b, c, 0, d}, {a, 0, b, 0, c, 0, d, 9, 9}} {
						l, e := octet.Split(text)
						if e != api.OK {
							continue
						}
						taken++
						if back, ok := octet.Join(l...); !ok || !bytes.Equal(back, text) {
							t.Fatalf("%v: %v, joined: %v %t", text, l, back, ok)
						}
					}
				}
			}
		}
	}
	if taken == 0 {
		t.Error("no text was taken")
	}
}

func TestAListHasOneTextATextOneList(t *testing.T) {
	l := lists()
	for i, a := range l {
		for k, b := range l {
			textA, _ := octet.Join(a...)
			textB, _ := octet.Join(b...)
			if bytes.Equal(textA, textB) != alike(a, b) {
				t.Errorf("the lists %d and %d, by their texts: %t", i, k, bytes.Equal(textA, textB))
			}
		}
	}
}

func TestWhatIsCutOffOrPutBehindIsRefused(t *testing.T) {
	for i, l := range lists() {
		text, _ := octet.Join(l...)
		// The greatest text is cut at some 5000 places, all others at each one.
		step := max(1, len(text)/5000)
		for n := 0; n < len(text); n += step {
			if got, e := octet.Split(text[:n]); e != api.ErrEnd || len(got) != 0 {
				t.Fatalf("the list %d, cut to %d of %d bytes: %d pieces, %d", i, n, len(text), len(got), e)
			}
		}
		if got, e := octet.Split(text[:len(text)-1]); e != api.ErrEnd || len(got) != 0 {
			t.Errorf("the list %d without its last byte: %d pieces, %d", i, len(got), e)
		}
		for _, more := range [][]byte{{0}, {1}, {255}, {0, 0}, row(5000, 1), text} {
			if got, e := octet.Split(slices.Concat(text, more)); e != api.ErrMore || len(got) != 0 {
				t.Errorf("the list %d with %d bytes behind it: %d pieces, %d", i, len(more), len(got), e)
			}
		}
	}
}

func TestATextThatSaysMoreOrLessThanItHasIsRefused(t *testing.T) {
	for i, l := range lists() {
		text := written(l)
		text[0]++
		want := api.ErrEnd
		if len(l) == 64 {
			want = api.ErrFull
		}
		if got, e := octet.Split(text); e != want || len(got) != 0 {
			t.Errorf("the list %d, said to have a piece more: %d pieces, %d, want %d", i, len(got), e, want)
		}
		if len(l) == 0 {
			continue
		}
		text[0] -= 2
		if got, e := octet.Split(text); e != api.ErrMore || len(got) != 0 {
			t.Errorf("the list %d, said to have a piece less: %d pieces, %d", i, len(got), e)
		}
		last := l[len(l)-1]
		if len(last) == 0 {
			continue
		}
		text = written(append(slices.Clone(l[:len(l)-1]), last[1:]))
		if got, e := octet.Split(append(text, last[0])); e != api.ErrMore || len(got) != 0 {
			t.Errorf("the list %d, its last piece said to have a byte less: %d pieces, %d", i, len(got), e)
		}
	}
}

// The rules that hold everywhere: what is handed in stays as it is, and an answer is new memory.

func TestWhatIsHandedInStaysAsItIs(t *testing.T) {
	room := append([]byte("\x02\x00\x02ab\x00\x01c"), "behind"...)
	text := room[:len(room)-6]
	before := slices.Clone(room)
	l, e := octet.Split(text)
	if e != api.OK || !alike(l, [][]byte{[]byte("ab"), []byte("c")}) {
		t.Fatalf("Split(%q): %q %d", text, l, e)
	}
	octet.Get(room[:2])
	octet.Key(room[:5])
	parts := [][]byte{room[:3:5], room[2:4]}
	octet.Join(parts...)
	if !bytes.Equal(room, before) || !alike(parts, [][]byte{before[:3], before[2:4]}) {
		t.Errorf("changed to %q, %q", room, parts)
	}
}

func TestAnswersAreNewMemory(t *testing.T) {
	text := []byte("\x03\x00\x02ab\x00\x00\x00\x02cd")
	l, _ := octet.Split(text)
	again, _ := octet.Split(text)
	for i := range l {
		for k := range l[i] {
			l[i][k] = '-'
		}
		l[i] = append(l[i], "----"...)
	}
	if string(text) != "\x03\x00\x02ab\x00\x00\x00\x02cd" || !alike(again, [][]byte{[]byte("ab"), nil, []byte("cd")}) {
		t.Errorf("the text is %q now, another answer %q", text, again)
	}
	if !alike(l, [][]byte{[]byte("------"), []byte("----"), []byte("------")}) {
		t.Errorf("the pieces share room: %q", l)
	}
	part := []byte("abc")
	b, _ := octet.Join(part)
	other, _ := octet.Join(part)
	clear(b)
	if string(part) != "abc" || string(other) != "\x01\x00\x03abc" {
		t.Errorf("the piece is %q now, another text %q", part, other)
	}
	n, _ := octet.Put(258, 2)
	same, _ := octet.Put(258, 2)
	clear(n)
	if !bytes.Equal(same, []byte{1, 2}) {
		t.Errorf("another number's bytes are %v now", same)
	}
	raw := row(32, 1)
	k, _ := octet.Key(raw)
	clear(raw)
	if !bytes.Equal(k[:], row(32, 1)) {
		t.Errorf("the key is %v now", k)
	}
}

func TestNothingIsKept(t *testing.T) {
	octet.Split([]byte("\x02\x00\x01a\x00\x01"))
	octet.Join(rows(65, 1)...)
	if l, e := octet.Split([]byte("\x01\x00\x01b")); e != api.OK || !alike(l, [][]byte{[]byte("b")}) {
		t.Errorf("Split behind a refused one: %q %d", l, e)
	}
	if b, ok := octet.Join([]byte("b")); !ok || string(b) != "\x01\x00\x01b" {
		t.Errorf("Join behind a refused one: %q %t", b, ok)
	}
}
