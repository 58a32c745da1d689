package wire_test

import (
	"fmt"
	"slices"
	"testing"

	"missive/api"
	"missive/wire"
)

// refused asks that the face's Get answers that error, and nothing beside.
func (f face) refused(t *testing.T, what, b string, want api.Errno) {
	t.Helper()
	if x, e := f.get(b); e != want || !alike(x, f.zero) {
		t.Errorf("Get%s, %s: %d, want %d; %.200x", f.name, what, e, want, b)
	}
}

// gets asks that the face's Get takes b just if it is written so, and then tells what is written as b; it tells whether it does.
func (f face) gets(t *testing.T, what, b string) bool {
	t.Helper()
	want := f.error(b)
	if want != api.OK {
		f.refused(t, what, b, want)
		return false
	}
	x, e := f.get(b)
	back, ok := f.put(x)
	if e != api.OK || !ok || string(back) != b {
		t.Errorf("Get%s, %s: %d, and put again %t, %x; %.200x", f.name, what, e, ok, back, b)
	}
	return true
}

// told asks that the face's Get tells just x.
func (f face) told(t *testing.T, what, b string, x any) {
	t.Helper()
	if got, e := f.get(b); e != api.OK || !alike(got, x) {
		t.Errorf("Get%s, %s: %v %d, want %v", f.name, what, got, e, x)
	}
}

// P14.2

func TestGetByHand(t *testing.T) {
	for i, h := range hands() {
		named(h.face).told(t, fmt.Sprint("the thing ", i), h.want, h.x)
	}
}

func TestGetOfTheExamples(t *testing.T) {
	named("Item").refused(t, "the kind 7 alone", "\x01\x00\x01\x07", api.ErrKind)
	named("Item").refused(t, "the kind 2 alone", "\x01\x00\x01\x02", api.ErrForm)
}

func TestGetOfNoJoinedText(t *testing.T) {
	for _, f := range faces() {
		for _, b := range []string{"", "\x00", "\x00\x00", "\x01", "\x01\x00", "\x41", "\xff", "\x01\x10\x01", "\x01\xff\xff", "\x02\x00\x01\x09", "\x02\x00\x01\x09\x00", "\x01\x00\x01\x09\x00", "\x01\x00\x02\x09", "\x03\x00\x00\x00\x00\x00\x01\x09\x00", "\x04\x00\x00\x00\x00\x00\x01\x09", many(0, 4096), many(1, 300), many(255, 300)} {
			f.refused(t, "no joined text", b, api.ErrForm)
		}
		d := drawer(3)
		for range 5 {
			b := f.writes(f.draw(&d))
			for n := range len(b) {
				f.refused(t, "cut off", b[:n], api.ErrForm)
			}
			for _, more := range []string{"\x00", "\x01", "\x00\x00", "\x00\x01\x00", b, many(7, 4096)} {
				f.refused(t, "more behind it", b+more, api.ErrForm)
			}
			f.refused(t, "a piece less said", number(b[0]-1, 1)+b[1:], api.ErrForm)
			f.refused(t, "a piece more said", number(b[0]+1, 1)+b[1:], api.ErrForm)
			f.refused(t, "within another", join(b), api.ErrForm)
		}
	}
}

// others are pieces, each by itself another one.
func others(pieces []string) (l [][]string) {
	with := func(at int, p ...string) { l = append(l, slices.Replace(slices.Clone(pieces), at, at+1, p...)) }
	for i, p := range pieces {
		with(i)
		with(i, p, p)
		with(i, "", p)
		with(i, p, "")
		with(i, p, "\x00")
		with(i, "")
		with(i, p+"\x00")
		with(i, "\x00"+p)
		with(i, join(p))
		with(i, join())
		if p != "" {
			with(i, p[1:])
			with(i, p[:len(p)-1])
		}
		for _, n := range []int{1, 2, 3, 4, 5, 8, 9, 31, 32, 33, 63, 64, 65, 66, 4096} {
			with(i, many(1, n))
			with(i, many(0, n))
		}
		if i > 0 {
			swapped := slices.Clone(pieces)
			swapped[i-1], swapped[i] = p, pieces[i-1]
			l = append(l, swapped)
		}
	}
	return append(l, append(slices.Clone(pieces), ""), append(slices.Clone(pieces), pieces[len(pieces)-1]))
}

func TestGetOfOtherPieces(t *testing.T) {
	for _, f := range faces() {
		d, refused := drawer(4), 0
		for range 30 {
			pieces, _ := split(f.writes(f.draw(&d)))
			for _, l := range others(pieces) {
				if !f.gets(t, "other pieces", join(l...)) {
					refused++
				}
			}
		}
		if refused < 1000 {
			t.Error(f.name, "refused", refused)
		}
	}
}

// deep are the pieces, each by itself another one, at every depth.
func deep(b string, level int) (l []string) {
	pieces, ok := split(b)
	if !ok || level == 0 || len(pieces) == 0 {
		return nil
	}
	for _, o := range others(pieces) {
		l = append(l, join(o...))
	}
	for i, p := range pieces {
		for _, other := range deep(p, level-1) {
			if len(other) <= 4096 {
				l = append(l, join(slices.Replace(slices.Clone(pieces), i, i+1, other)...))
			}
		}
	}
	return l
}

func TestGetOfOtherPiecesWithin(t *testing.T) {
	for _, h := range hands() {
		for _, b := range deep(h.want, 4) {
			named(h.face).gets(t, "other pieces within", b)
		}
	}
}

func TestGetOfAChangedByte(t *testing.T) {
	for _, f := range faces() {
		d, things := drawer(5), 12
		if testing.Short() {
			things = 2
		}
		for range things {
			b := []byte(f.writes(f.draw(&d)))
			for i, was := range b {
				for _, x := range []byte{was + 1, was - 1, was ^ 128, 0, 1, 2, 7, 255, d.byte()} {
					b[i] = x
					f.gets(t, fmt.Sprint("the byte ", i, " another"), string(b))
				}
				b[i] = was
			}
		}
	}
}

func TestGetOfAllShortTexts(t *testing.T) {
	texts := []string{""}
	for n := range 6 {
		var longer []string
		for _, b := range texts {
			for _, f := range faces() {
				f.gets(t, "short", b)
			}
			for _, x := range "\x00\x01\x02\x03\x04\x05\x07\xff" {
				if n < 5 {
					longer = append(longer, b+string([]byte{byte(x)}))
				}
			}
		}
		texts = longer
	}
}

func TestGetOfDrawnPieces(t *testing.T) {
	sizes := []int{0, 1, 1, 1, 2, 2, 4, 32, 64, 65}
	for _, f := range faces() {
		d := drawer(6)
		for range 3000 {
			l := make([]string, d.below(8))
			for i := range l {
				l[i] = string(d.text(sizes[d.below(len(sizes))]))
				if len(l[i]) == 1 {
					l[i] = number(d.below(9), 1)
				}
			}
			f.gets(t, "drawn pieces", join(l...))
		}
	}
}

func TestGetOfEachKind(t *testing.T) {
	for k := range 256 {
		kind := number(k, 1)
		want := api.ErrForm
		if k == 0 || k > 6 {
			want = api.ErrKind
		}
		named("Item").refused(t, "a kind alone", join(kind), want)
		named("Item").refused(t, "a kind and 63 pieces", join(append([]string{kind}, make([]string, 63)...)...), want)
		named("Item").refused(t, "a kind and 64 pieces", join(append([]string{kind}, make([]string, 64)...)...), api.ErrForm)
		if want = api.ErrForm; k == 0 || k > 4 {
			want = api.ErrKind
		}
		named("Call").refused(t, "a kind alone", join(kind), want)
		named("Call").refused(t, "a kind, and what is no Seq", join(kind, "\x00\x00\x00", ""), want)
		named("Packet").refused(t, "three pieces", join("\x00", "\x00", kind), want)
		named("Packet").refused(t, "three pieces, two of them wrong", join("", "\x00\x00", kind), want)
		named("Packet").refused(t, "three pieces, two of them wrong, and more", join(many(3, 4096), "\x00\x00", kind, "x", "y", "z", "-", "-"), want)
		named("Packet").refused(t, "without the last", join("\x00", "\x00", kind, join(), ""), want)
		named("Packet").refused(t, "one more", join("\x00", "\x00", kind, join(), "", many(0, 64), ""), want)
		named("Packet").refused(t, "a chain that is none", join("\x00", "\x00", kind, "", "", many(0, 64)), want)
		if want == api.ErrForm {
			want = api.OK
		}
		b := join("\x00", "\x00", kind, join(), "", many(0, 64))
		if x, e := wire.GetPacket([]byte(b)); e != want || e == api.OK && x.Kind != byte(k) {
			t.Errorf("GetPacket of the kind %d: %v %d", k, x, e)
		}
	}
}

func TestGetOfAKindThatIsNoByte(t *testing.T) {
	for _, kind := range []string{"", "\x00\x00", "\x00\x07", "\x07\x00", "\x07\x07", "\x02\x00", "\x00\x02", many(9, 3), many(9, 4096)} {
		named("Item").refused(t, "no byte", join(kind), api.ErrForm)
		named("Item").refused(t, "no byte, and others", join(kind, "\x01", "\x02"), api.ErrForm)
		named("Call").refused(t, "no byte", join(kind), api.ErrForm)
		named("Call").refused(t, "no byte, and others", join(kind, "\x00\x01", "\x02"), api.ErrForm)
		named("Packet").refused(t, "no byte", join("\x00", "\x00", kind), api.ErrForm)
		named("Packet").refused(t, "no byte, and others", join("\x00", "\x00", kind, join(), "", many(0, 64)), api.ErrForm)
	}
	named("Packet").refused(t, "no third piece", join("\x09", "\x09"), api.ErrForm)
	named("Packet").refused(t, "the kind elsewhere", join("\x09", "\x09", "\x01", "\x09"), api.ErrForm)
}

func TestGetOfAnUnknownKindWithin(t *testing.T) {
	ask := join("\x02", "\x00", "\x00")
	for _, kind := range []string{"\x00", "\x07", "\xff"} {
		x := join(kind, "\x00", "\x00")
		for _, items := range [][]string{{x}, {x, ask}, {ask, x}, {ask, ask, ask, x}} {
			named("Reply").refused(t, "an unknown item", join(append([]string{"\x00\x00", "\x00", "\x00\x00"}, items...)...), api.ErrForm)
			named("Trans").refused(t, "an unknown item", join(append([]string{"\x00\x00"}, items...)...), api.ErrForm)
		}
		named("Item").refused(t, "an unknown one as a letter", join("\x01", x), api.ErrForm)
		named("Call").refused(t, "an unknown one as a bundle", join("\x01", "\x00\x00", x), api.ErrForm)
		named("Packet").refused(t, "an unknown one as a key", join("\x00", "\x00", "\x01", join(x), "", many(0, 64)), api.ErrForm)
	}
	named("Reply").refused(t, "a kind of nothing", join("\x09"), api.ErrForm)
}

// around are texts in which a header's bytes stand, by the face that reads them.
func around(header string) map[string]string {
	l := join("\x01", "\x02", header, "body")
	return map[string]string{
		"Letter": l,
		"Item":   join("\x01", l),
		"Call":   join("\x03", "\x00\x01", l),
		"Reply":  join("\x00\x01", "\x00", "\x00\x02", join("\x01", l)),
		"Trans":  join("\x00\x01", join("\x04", "\x05", "\x06"), join("\x01", l)),
	}
}

func TestGetOfHeaders(t *testing.T) {
	zero, none := many(0, 32), "\x00\x00"
	for first := range 256 {
		for name, b := range around(join(zero, number(first, 1), zero, zero, zero, none, zero, none, none)) {
			if first > 1 {
				named(name).refused(t, fmt.Sprint("First ", first), b, api.ErrForm)
			} else if !named(name).gets(t, "First", b) {
				t.Error(name, "isn't taken with First", first)
			}
		}
	}
	for _, first := range []string{"", "\x00\x00", "\x01\x00", "\x00\x01", "\x01\x01"} {
		for name, b := range around(join(zero, first, zero, zero, zero, none, zero, none, none)) {
			named(name).refused(t, "First of no byte or two", b, api.ErrForm)
		}
	}
	for _, first := range []bool{false, true} {
		eachLeaf(api.Header{First: first}, func(path string, h api.Header) {
			h.First = first
			for name, b := range around(header(h)) {
				if !first && begins(path, []string{".Agree", ".Signer", ".Base", ".Id"}) {
					named(name).refused(t, "not First, with "+path, b, api.ErrForm)
				} else if !named(name).gets(t, path, b) {
					t.Error(name, "isn't taken with First", first, "and", path)
				}
			}
		})
	}
}

// rows are texts with a list of so many, by their faces; most is how many there may be.
func rows(n int) []struct {
	name, b string
	most    int
} {
	ask := join("\x02", "\x00", "\x00")
	list := func(x string, ahead ...string) string {
		return join(append(ahead, slices.Repeat([]string{x}, n)...)...)
	}
	bare := []string{"\x00", "\x00", many(0, 32), many(0, 4), many(0, 4), many(0, 64)}
	return []struct {
		name, b string
		most    int
	}{
		{"Object", list(many(0, 65), bare...), 4},
		{"Item", join("\x05", list(many(0, 65), bare...)), 4},
		{"Item", join("\x06", list(many(0, 65), bare...)), 4},
		{"Packet", join("\x00", "\x00", "\x01", join(list(many(0, 65), bare...)), "", many(0, 64)), 4},
		{"Packet", join("\x00", "\x00", "\x01", list(join(bare...)), "", many(0, 64)), 4},
		{"Call", list(bundle(api.Bundle{}), "\x01", "\x00\x00"), 9},
		{"Reply", list(ask, "\x00\x00", "\x00", "\x00\x00"), 4},
		{"Trans", list(ask, "\x00\x00"), 4},
		{"Trans", join("\x00\x00", join("\x06", list(many(0, 65), bare...))), 4},
	}
}

func TestGetOfLists(t *testing.T) {
	for n := range 59 {
		for _, r := range rows(n) {
			what := fmt.Sprint("a list of ", n)
			f := named(r.name)
			if n > r.most {
				f.refused(t, what, r.b, api.ErrForm)
			} else if !f.gets(t, what, r.b) {
				t.Error(r.name, "isn't taken with", what)
			}
		}
	}
}

func TestGetOfVouches(t *testing.T) {
	for n := range 140 {
		b := object(api.Object{})
		b = "\x07" + b[1:] + number(n, 2) + many(6, n)
		if n != 65 {
			named("Object").refused(t, fmt.Sprint("a vouch of ", n, " bytes"), b, api.ErrForm)
		} else {
			named("Object").told(t, "a vouch", b, api.Object{Vouches: []api.Vouch{{Notary: 6, Sig: sigs(6)}}})
		}
	}
	b := "\x08" + object(api.Object{})[1:] + "\x00\x41" + many(1, 65)
	named("Object").refused(t, "a vouch of 64 bytes behind another", b+"\x00\x40"+many(1, 64), api.ErrForm)
	named("Object").refused(t, "a vouch of 66 bytes behind another", b+"\x00\x42"+many(1, 66), api.ErrForm)
	named("Object").refused(t, "a vouch as a joined text", "\x07"+object(api.Object{})[1:]+"\x00\x46"+join("\x01", many(1, 64)), api.ErrForm)
}

func TestGetOfAListForAText(t *testing.T) {
	o, l, zeros := object(api.Object{}), letter(api.Letter{}), many(0, 64)
	packets := named("Packet")
	packets.refused(t, "an empty chain", join("\x00", "\x00", "\x01", "", "", zeros), api.ErrForm)
	packets.refused(t, "a key for the chain", join("\x00", "\x00", "\x01", o, "", zeros), api.ErrForm)
	packets.refused(t, "a chain within a chain", join("\x00", "\x00", "\x01", join(join(o)), "", zeros), api.ErrForm)
	packets.refused(t, "an empty key in the chain", join("\x00", "\x00", "\x01", join(""), "", zeros), api.ErrForm)
	packets.refused(t, "a chain with a byte more", join("\x00", "\x00", "\x01", join(o)+"\x00", "", zeros), api.ErrForm)
	packets.refused(t, "the keys as pieces", join("\x00", "\x00", "\x01", o, o, "", zeros), api.ErrForm)
	packets.refused(t, "no chain", join("\x00", "\x00", "\x01", "", zeros), api.ErrForm)
	header := []string{many(0, 32), "\x00", many(0, 32), many(0, 32), many(0, 32), "\x00\x00", many(0, 32), "\x00\x00", "\x00\x00"}
	named("Letter").refused(t, "the header's pieces", join(slices.Concat([]string{"\x00", "\x00"}, header, []string{""})...), api.ErrForm)
	named("Letter").refused(t, "an empty header", join("\x00", "\x00", "", ""), api.ErrForm)
	named("Item").refused(t, "the letter's pieces", join("\x01", "\x00", "\x00", join(header...), ""), api.ErrForm)
	named("Item").refused(t, "an empty letter", join("\x01", ""), api.ErrForm)
	named("Item").refused(t, "a letter in a list", join("\x01", join(l)), api.ErrForm)
	named("Item").refused(t, "a key's pieces", join("\x05", "\x00", "\x00", many(0, 32), many(0, 4), many(0, 4), zeros), api.ErrForm)
	named("Item").refused(t, "a bundle's pieces", join("\x03", "\x00", "\x00", many(0, 32), many(0, 32), "\x00\x00", many(0, 32), zeros), api.ErrForm)
	b := bundle(api.Bundle{})
	named("Call").refused(t, "bundles in a list", join("\x01", "\x00\x00", join(b, b)), api.ErrForm)
	named("Call").refused(t, "an empty list of bundles", join("\x01", "\x00\x00", join()), api.ErrForm)
	named("Reply").refused(t, "items in a list", join("\x00\x00", "\x00", "\x00\x00", join(join("\x02", "\x00", "\x00"))), api.ErrForm)
	named("Reply").refused(t, "an empty list of items", join("\x00\x00", "\x00", "\x00\x00", join()), api.ErrForm)
	named("Trans").refused(t, "an empty list of items", join("\x00\x00", join()), api.ErrForm)
	named("Trans").refused(t, "an empty item", join("\x00\x00", ""), api.ErrForm)
}

func TestGetOfTheFieldsOfAnotherKind(t *testing.T) {
	tails := [][]string{{}, {letter(api.Letter{})}, {"\x01", "\x02"}, {"\x01", bundle(api.Bundle{})}, {object(api.Object{})}, {"\x01"}, {"\x01\x02"}, {bundle(api.Bundle{}), bundle(api.Bundle{})}, {"\x01", "\x02", object(api.Object{})}}
	items, calls := 0, 0
	for kind := range 9 {
		for _, tail := range tails {
			what := fmt.Sprint("kind ", kind, " with the fields of another")
			if named("Item").gets(t, what, join(append([]string{number(kind, 1)}, tail...)...)) {
				items++
			}
			if named("Call").gets(t, what, join(append([]string{number(kind, 1), "\x00\x09"}, tail...)...)) {
				calls++
			}
		}
	}
	if items != 6 || calls != 5 {
		t.Error("items and calls that are taken:", items, calls)
	}
}

func TestGetOfLongBodies(t *testing.T) {
	for name, most := range longs {
		for _, n := range []int{most, most - 1} {
			x := api.Letter{Header: aFirst, Body: []byte(many(5, n))}
			for _, y := range wholes(x)[name] {
				named(name).told(t, fmt.Sprint("a body of ", n), named(name).writes(y), y)
			}
		}
	}
	x := api.Packet{Kind: 4, Body: []byte(many(5, 4096))}
	named("Packet").told(t, "a body of 4096", packet(x), x)
}

// P14.5

func TestGetOfPut(t *testing.T) {
	for _, f := range faces() {
		d := drawer(7)
		for i := range 400 {
			x := f.draw(&d)
			b, ok := f.put(x)
			if !ok {
				t.Fatalf("Put%s of %v: false", f.name, x)
			}
			f.told(t, fmt.Sprint("put ", i), string(b), x)
			f.gets(t, fmt.Sprint("put ", i), string(b))
		}
	}
}

func TestUnlikeThingsHaveUnlikeBytes(t *testing.T) {
	seen := map[string]string{}
	look := func(name, what string, x any) {
		b, ok := named(name).put(x)
		if !ok {
			return
		}
		named(name).told(t, what, string(b), x)
		is := fmt.Sprint(x)
		if other, there := seen[name+string(b)]; there && other != is {
			t.Errorf("Put%s: the same bytes of %s and of %s", name, is, other)
		}
		seen[name+string(b)] = is
	}
	eachLeaf(aBundle, func(path string, x api.Bundle) { look("Bundle", path, x) })
	eachLeaf(aLetter, func(path string, x api.Letter) { look("Letter", path, x) })
	eachLeaf(anObject, func(path string, x api.Object) { look("Object", path, x) })
	eachLeaf(api.Packet{Kind: 1, Chain: []api.Object{{}}}, func(path string, x api.Packet) { look("Packet", path, x) })
	for kind := range byte(7) {
		eachLeaf(api.Item{Kind: kind}, func(path string, x api.Item) { look("Item", path, x) })
		eachLeaf(api.Call{Kind: kind, Seq: 1}, func(path string, x api.Call) { look("Call", path, x) })
	}
	eachLeaf(api.Reply{}, func(path string, x api.Reply) { look("Reply", path, x) })
	eachLeaf(api.Trans{}, func(path string, x api.Trans) { look("Trans", path, x) })
	if len(seen) < 1500 {
		t.Error("things put:", len(seen))
	}
}
