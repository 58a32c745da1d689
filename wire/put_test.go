package wire_test

import (
	"fmt"
	"reflect"
	"slices"
	"strings"
	"testing"

	"missive/api"
	"missive/wire"
)

// keys is a key of one byte, over and over.
func keys(b byte) api.Key { return api.Key([]byte(many(b, 32))) }

// sigs is a signature of one byte, over and over.
func sigs(b byte) api.Sig { return api.Sig([]byte(many(b, 64))) }

// hand is a thing, and its bytes written out by hand.
type hand struct {
	face string
	x    any
	want string
}

// The things that stand in others, and their bytes.
var (
	aBundle     = api.Bundle{Device: 1, Agree: keys(2), Signer: keys(3), Id: 0x0405, Once: keys(6), Sig: sigs(7)}
	bundleBytes = "\x06" + "\x00\x01\x01" + "\x00\x20" + many(2, 32) + "\x00\x20" + many(3, 32) + "\x00\x02\x04\x05" + "\x00\x20" + many(6, 32) + "\x00\x40" + many(7, 64)

	aFirst     = api.Header{Session: keys(1), First: true, Agree: keys(2), Signer: keys(3), Base: keys(4), Id: 0x0506, Ratchet: keys(7), N: 0x0809, Prev: 0x0a0b}
	firstBytes = "\x09" + "\x00\x20" + many(1, 32) + "\x00\x01\x01" + "\x00\x20" + many(2, 32) + "\x00\x20" + many(3, 32) + "\x00\x20" + many(4, 32) + "\x00\x02\x05\x06" + "\x00\x20" + many(7, 32) + "\x00\x02\x08\x09" + "\x00\x02\x0a\x0b"

	aLater     = api.Header{Session: keys(1), Ratchet: keys(7), N: 0xffff, Prev: 0x0100}
	laterBytes = "\x09" + "\x00\x20" + many(1, 32) + "\x00\x01\x00" + strings.Repeat("\x00\x20"+many(0, 32), 3) + "\x00\x02\x00\x00" + "\x00\x20" + many(7, 32) + "\x00\x02\xff\xff" + "\x00\x02\x01\x00"

	aLetter     = api.Letter{From: 12, To: 13, Header: aFirst, Body: []byte("body")}
	letterBytes = "\x04" + "\x00\x01\x0c" + "\x00\x01\x0d" + "\x00\xba" + firstBytes + "\x00\x04body"

	anObject    = api.Object{Server: 1, N: 2, Key: keys(3), From: 0x04050607, Until: 0xfffffffe, Sig: sigs(8), Vouches: []api.Vouch{{Notary: 9, Sig: sigs(10)}, {Notary: 255, Sig: sigs(11)}}}
	objectBytes = "\x08" + "\x00\x01\x01" + "\x00\x01\x02" + "\x00\x20" + many(3, 32) + "\x00\x04\x04\x05\x06\x07" + "\x00\x04\xff\xff\xff\xfe" + "\x00\x40" + many(8, 64) + "\x00\x41\x09" + many(10, 64) + "\x00\x41\xff" + many(11, 64)
	bareBytes   = "\x06" + "\x00\x01\x00" + "\x00\x01\x00" + "\x00\x20" + many(0, 32) + "\x00\x04" + many(0, 4) + "\x00\x04" + many(0, 4) + "\x00\x40" + many(0, 64)
)

func hands() []hand {
	ask, claim := "\x03\x00\x01\x02\x00\x01\x01\x00\x01\x02", "\x03\x00\x01\x02\x00\x02\x00\x07\x00\x01\x0f"
	return []hand{
		{"Bundle", aBundle, bundleBytes},
		{"Letter", aLetter, letterBytes},
		{"Letter", api.Letter{Header: aLater}, "\x04\x00\x01\x00\x00\x01\x00\x00\xba" + laterBytes + "\x00\x00"},
		{"Object", anObject, objectBytes},
		{"Object", api.Object{}, bareBytes},
		{"Item", api.Item{Kind: api.ItemLetter, Letter: aLetter}, "\x02\x00\x01\x01" + number(len(letterBytes), 2) + letterBytes},
		{"Item", api.Item{Kind: api.ItemLetter, Letter: aLetter}, "\x02\x00\x01\x01\x00\xc9" + letterBytes},
		{"Item", api.Item{Kind: api.ItemAsk, Asker: 1, Peer: 2}, ask},
		{"Item", api.Item{Kind: api.ItemGive, Asker: 3, Bundle: aBundle}, "\x03\x00\x01\x03\x00\x01\x03" + number(len(bundleBytes), 2) + bundleBytes},
		{"Item", api.Item{Kind: api.ItemNone, Asker: 255, Peer: 16}, "\x03\x00\x01\x04\x00\x01\xff\x00\x01\x10"},
		{"Item", api.Item{Kind: api.ItemVouch, Object: anObject}, "\x02\x00\x01\x05" + number(len(objectBytes), 2) + objectBytes},
		{"Item", api.Item{Kind: api.ItemVouched, Object: anObject}, "\x02\x00\x01\x06\x00\xfd" + objectBytes},
		{"Call", api.Call{Kind: api.CallUpload, Seq: 0x0102}, "\x02\x00\x01\x01\x00\x02\x01\x02"},
		{"Call", api.Call{Kind: api.CallUpload, Seq: 0xfffe, Bundles: []api.Bundle{aBundle, {}}}, "\x04\x00\x01\x01\x00\x02\xff\xfe\x00\xb0" + bundleBytes + "\x00\xb0\x06\x00\x01\x00\x00\x20" + many(0, 32) + "\x00\x20" + many(0, 32) + "\x00\x02\x00\x00\x00\x20" + many(0, 32) + "\x00\x40" + many(0, 64)},
		{"Call", api.Call{Kind: api.CallClaim, Seq: 7, Peer: 15}, claim},
		{"Call", api.Call{Kind: api.CallPost, Seq: 7, Letter: aLetter}, "\x03\x00\x01\x03\x00\x02\x00\x07\x00\xc9" + letterBytes},
		{"Call", api.Call{Kind: api.CallSync, Seq: 258, Since: 772}, "\x03\x00\x01\x04\x00\x02\x01\x02\x00\x02\x03\x04"},
		{"Reply", api.Reply{}, "\x03\x00\x02\x00\x00\x00\x01\x00\x00\x02\x00\x00"},
		{"Reply", api.Reply{Seq: 0x0102, Why: 141, From: 0x0304, Items: []api.Item{{Kind: api.ItemAsk, Asker: 1, Peer: 2}}}, "\x04\x00\x02\x01\x02\x00\x01\x8d\x00\x02\x03\x04\x00\x0a" + ask},
		{"Trans", api.Trans{}, "\x01\x00\x02\x00\x00"},
		{"Trans", api.Trans{Id: 0x0102, Items: []api.Item{{Kind: api.ItemAsk, Asker: 1, Peer: 2}, {Kind: api.ItemVouch}}}, "\x03\x00\x02\x01\x02\x00\x0a" + ask + "\x00\x7d\x02\x00\x01\x05\x00\x77" + bareBytes},
		{"Packet", api.Packet{Kind: api.PackAck}, "\x06\x00\x01\x00\x00\x01\x00\x00\x01\x04\x00\x01\x00\x00\x00\x00\x40" + many(0, 64)},
		{"Packet", api.Packet{From: 17, To: 3, Kind: api.PackCall, Body: []byte(claim), Sig: sigs(9)}, "\x06\x00\x01\x11\x00\x01\x03\x00\x01\x01\x00\x01\x00\x00\x0b" + claim + "\x00\x40" + many(9, 64)},
		{"Packet", api.Packet{From: 1, To: 2, Kind: api.PackTrans, Chain: []api.Object{anObject, {}}, Sig: sigs(9)}, "\x06\x00\x01\x01\x00\x01\x02\x00\x01\x03\x01\x79\x02\x00\xfd" + objectBytes + "\x00\x77" + bareBytes + "\x00\x00\x00\x40" + many(9, 64)},
	}
}

// named is the face by that name.
func named(name string) face {
	l := faces()
	return l[slices.IndexFunc(l, func(f face) bool { return f.name == name })]
}

// written asks that the face's Put makes just these bytes of x.
func (f face) written(t *testing.T, what string, x any, want string) {
	t.Helper()
	if b, ok := f.put(x); !ok || string(b) != want {
		t.Errorf("Put%s, %s: %x %t, want %x", f.name, what, b, ok, want)
	}
}

// puts asks whether the face's Put takes x: then it makes the bytes that the table says, else none.
func (f face) puts(t *testing.T, what string, x any, can bool) {
	t.Helper()
	if can {
		f.written(t, what, x, f.writes(x))
	} else if b, ok := f.put(x); ok || len(b) != 0 {
		t.Errorf("Put%s, %s: %d bytes, %t", f.name, what, len(b), ok)
	}
}

// P14.1

func TestPutByHand(t *testing.T) {
	for i, h := range hands() {
		named(h.face).written(t, fmt.Sprint("the thing ", i), h.x, h.want)
	}
}

func TestPutOfDrawnThings(t *testing.T) {
	for _, f := range faces() {
		d := drawer(1)
		for i := range 400 {
			f.puts(t, fmt.Sprint("drawn ", i), f.draw(&d), true)
		}
	}
}

func TestPutOfEachKind(t *testing.T) {
	for k := range 256 {
		kind := byte(k)
		named("Item").puts(t, fmt.Sprint("kind ", k), api.Item{Kind: kind}, k >= 1 && k <= 6)
		named("Call").puts(t, fmt.Sprint("kind ", k), api.Call{Kind: kind}, k >= 1 && k <= 4)
		named("Packet").puts(t, fmt.Sprint("kind ", k), api.Packet{Kind: kind}, k >= 1 && k <= 4)
	}
}

// leaf is a field that has no fields: the way to it, and how it is set to something of its own, in how many ways.
type leaf struct {
	path string
	ways int
	set  func(way int)
}

// leaves are those of a struct that can be set.
func leaves(v reflect.Value, path string) (l []leaf) {
	switch v.Kind() {
	case reflect.Struct:
		for i := range v.NumField() {
			l = append(l, leaves(v.Field(i), path+"."+v.Type().Field(i).Name)...)
		}
		return l
	case reflect.Array: // each byte is a way
		return []leaf{{path, v.Len(), func(way int) { v.Index(way).SetUint(1) }}}
	case reflect.Slice: // of one thing, and of more
		return []leaf{{path, 2, func(way int) { v.Set(reflect.MakeSlice(v.Type(), way+1, way+3)) }}}
	case reflect.Bool:
		return []leaf{{path, 1, func(int) { v.SetBool(true) }}}
	}
	return []leaf{{path, 8 * int(v.Type().Size()), func(way int) { v.SetUint(1 << way) }}}
}

// eachLeaf tells of x with each of its leaves set by itself, in each way.
func eachLeaf[T any](x T, tell func(path string, x T)) {
	for i, l := range leaves(reflect.ValueOf(&x).Elem(), "") {
		for way := range l.ways {
			y := x
			leaves(reflect.ValueOf(&y).Elem(), "")[i].set(way)
			tell(l.path, y)
		}
	}
}

// begins tells whether one of the beginnings is the path's.
func begins(path string, beginnings []string) bool {
	return slices.ContainsFunc(beginnings, func(b string) bool { return path == b || strings.HasPrefix(path, b+".") })
}

// firstOnly are the fields of a header that only a first letter's has.
func firstOnly(path string) bool {
	return begins(path[strings.LastIndex(path, "."):], []string{".Agree", ".Signer", ".Base", ".Id"}) && strings.Contains(path, ".Header")
}

func TestPutOfAnItemWithAFieldMore(t *testing.T) {
	names := map[byte][]string{
		api.ItemLetter:  {".Letter"},
		api.ItemAsk:     {".Asker", ".Peer"},
		api.ItemGive:    {".Asker", ".Bundle"},
		api.ItemNone:    {".Asker", ".Peer"},
		api.ItemVouch:   {".Object"},
		api.ItemVouched: {".Object"},
	}
	f, told := named("Item"), 0
	for kind, l := range names {
		eachLeaf(api.Item{Kind: kind}, func(path string, x api.Item) {
			if path != ".Kind" {
				f.puts(t, fmt.Sprint("kind ", kind, " with ", path), x, begins(path, l) && !firstOnly(path))
				told++
			}
		})
	}
	if told < 6*500 {
		t.Error("fields set:", told)
	}
}

func TestPutOfACallWithAFieldMore(t *testing.T) {
	names := map[byte][]string{
		api.CallUpload: {".Seq", ".Bundles"},
		api.CallClaim:  {".Seq", ".Peer"},
		api.CallPost:   {".Seq", ".Letter"},
		api.CallSync:   {".Seq", ".Since"},
	}
	f, told := named("Call"), 0
	for kind, l := range names {
		eachLeaf(api.Call{Kind: kind}, func(path string, x api.Call) {
			if path != ".Kind" {
				f.puts(t, fmt.Sprint("kind ", kind, " with ", path), x, begins(path, l) && !firstOnly(path))
				told++
			}
		})
	}
	if told < 4*200 {
		t.Error("fields set:", told)
	}
}

func TestPutOfALeafAlone(t *testing.T) {
	eachLeaf(api.Bundle{}, func(path string, x api.Bundle) { named("Bundle").puts(t, path, x, true) })
	eachLeaf(api.Letter{}, func(path string, x api.Letter) { named("Letter").puts(t, path, x, !firstOnly(path)) })
	eachLeaf(api.Letter{Header: api.Header{First: true}}, func(path string, x api.Letter) { named("Letter").puts(t, path, x, true) })
	eachLeaf(api.Object{}, func(path string, x api.Object) { named("Object").puts(t, path, x, true) })
	eachLeaf(api.Packet{Kind: 1}, func(path string, x api.Packet) {
		named("Packet").puts(t, path, x, x.Kind >= 1 && x.Kind <= 4)
	})
	eachLeaf(api.Reply{}, func(path string, x api.Reply) { named("Reply").puts(t, path, x, path != ".Items") })
	eachLeaf(api.Trans{}, func(path string, x api.Trans) { named("Trans").puts(t, path, x, path != ".Items") })
}

func TestPutTakesEmptyForNone(t *testing.T) {
	room := make([]byte, 0, 9)
	for k := range 256 {
		x := api.Item{Kind: byte(k), Letter: api.Letter{Body: room}, Object: api.Object{Vouches: []api.Vouch{}}}
		named("Item").puts(t, fmt.Sprint("empty lists, kind ", k), x, k >= 1 && k <= 6)
		y := api.Call{Kind: byte(k), Letter: api.Letter{Body: room}, Bundles: make([]api.Bundle, 0, 2)}
		named("Call").puts(t, fmt.Sprint("empty lists, kind ", k), y, k >= 1 && k <= 4)
	}
	named("Packet").puts(t, "empty lists", api.Packet{Kind: 1, Chain: []api.Object{}, Body: room}, true)
	named("Letter").puts(t, "empty lists", api.Letter{Body: room}, true)
	named("Object").puts(t, "empty lists", api.Object{Vouches: []api.Vouch{}}, true)
	named("Reply").puts(t, "empty lists", api.Reply{Items: []api.Item{}}, true)
	named("Trans").puts(t, "empty lists", api.Trans{Items: []api.Item{}}, true)
}

// wholes are things in which the letter stands.
func wholes(x api.Letter) map[string][]any {
	i := api.Item{Kind: api.ItemLetter, Letter: x}
	return map[string][]any{
		"Letter": {x},
		"Item":   {i},
		"Call":   {api.Call{Kind: api.CallPost, Letter: x}},
		"Reply":  {api.Reply{Items: []api.Item{i}}, api.Reply{Items: []api.Item{{Kind: api.ItemAsk}, i}}},
		"Trans":  {api.Trans{Items: []api.Item{i}}, api.Trans{Items: []api.Item{{Kind: api.ItemAsk}, i}}},
	}
}

func TestPutOfAHeaderWithinOthers(t *testing.T) {
	for _, first := range []bool{false, true} {
		eachLeaf(api.Letter{Header: api.Header{First: first}}, func(path string, x api.Letter) {
			for name, l := range wholes(x) {
				for _, y := range l {
					named(name).puts(t, fmt.Sprint("First ", first, " with ", path), y, first || !firstOnly(path))
				}
			}
		})
	}
}

func TestPutOfLists(t *testing.T) {
	for _, n := range []int{0, 1, 2, 3, 4, 5, 6, 7, 8, 9, 10, 11, 16, 58, 59, 60, 61, 62, 63, 64, 65, 128, 255, 256, 257, 260, 512, 65536, 65540} {
		what := fmt.Sprint("a list of ", n)
		items := make([]api.Item, n)
		for i := range items {
			items[i] = api.Item{Kind: api.ItemAsk, Asker: byte(i), Peer: byte(i >> 8)}
		}
		named("Reply").puts(t, what, api.Reply{Items: items}, n <= 4)
		named("Trans").puts(t, what, api.Trans{Items: items}, n <= 4)
		named("Call").puts(t, what, api.Call{Kind: api.CallUpload, Bundles: make([]api.Bundle, n)}, n <= 9)
		named("Packet").puts(t, what, api.Packet{Kind: 1, Chain: make([]api.Object, n)}, n <= 4)
		x := api.Object{Vouches: make([]api.Vouch, n)}
		named("Object").puts(t, what, x, n <= 4)
		for kind := range byte(7) {
			named("Item").puts(t, what, api.Item{Kind: kind, Object: x}, n <= 4 && kind >= 5 || n == 0 && kind >= 1)
		}
	}
}

func TestPutOfWhatCannotBeWrittenWithinAList(t *testing.T) {
	wrong := []api.Item{
		{},
		{Kind: 7},
		{Kind: 255},
		{Kind: api.ItemAsk, Object: api.Object{N: 1}},
		{Kind: api.ItemAsk, Letter: api.Letter{Body: []byte{0}}},
		{Kind: api.ItemLetter, Peer: 1},
		{Kind: api.ItemLetter, Letter: api.Letter{Header: api.Header{Id: 1}}},
		{Kind: api.ItemLetter, Letter: api.Letter{Body: make([]byte, 4097)}},
		{Kind: api.ItemVouch, Object: api.Object{Vouches: make([]api.Vouch, 5)}},
	}
	for size := 1; size <= 4; size++ {
		for at := range size {
			for i, x := range wrong {
				items := slices.Repeat([]api.Item{{Kind: api.ItemNone}}, size)
				items[at] = x
				what := fmt.Sprint("the wrong item ", i, " at ", at, " of ", size)
				named("Reply").puts(t, what, api.Reply{Items: items}, false)
				named("Trans").puts(t, what, api.Trans{Items: items}, false)
			}
			chain := make([]api.Object, size)
			chain[at].Vouches = make([]api.Vouch, 5)
			named("Packet").puts(t, fmt.Sprint("five vouches at ", at, " of ", size), api.Packet{Kind: 1, Chain: chain}, false)
			chain[at].Vouches = make([]api.Vouch, 4)
			named("Packet").puts(t, fmt.Sprint("four vouches at ", at, " of ", size), api.Packet{Kind: 1, Chain: chain}, true)
		}
	}
}

// longs are the lengths of bodies that can just be written in a thing, by its name: what stands around them takes the rest.
var longs = map[string]int{"Letter": 4096, "Item": 3899, "Call": 3899, "Reply": 3893, "Trans": 3893}

func TestPutOfLongPieces(t *testing.T) {
	for name, most := range longs {
		for _, n := range []int{0, 1, 255, 256, 900, most - 1, most, most + 1, most + 2, 4095, 4096, 4097, 8192, 65535, 65536, 65537, 65536 + most, 1 << 20} {
			x := api.Letter{Header: aFirst, Body: []byte(many(5, n))}
			for _, y := range wholes(x)[name] {
				named(name).puts(t, fmt.Sprint("a body of ", n), y, n <= most)
			}
		}
	}
	for _, n := range []int{4095, 4096, 4097, 65536, 65537, 1 << 20} {
		named("Packet").puts(t, fmt.Sprint("a body of ", n), api.Packet{Kind: 4, Body: []byte(many(5, n))}, n <= 4096)
	}
	full := slices.Repeat([]api.Item{{Kind: api.ItemLetter, Letter: api.Letter{Body: make([]byte, 3893)}}}, 4)
	named("Reply").puts(t, "four of the longest items", api.Reply{Items: full}, true)
	named("Trans").puts(t, "four of the longest items", api.Trans{Items: full}, true)
	chain := slices.Repeat([]api.Object{{Vouches: make([]api.Vouch, 4)}}, 4)
	named("Packet").puts(t, "all that it can have", api.Packet{Kind: 2, Chain: chain, Body: make([]byte, 4096)}, true)
}

// P14.4

func TestHeaderBytes(t *testing.T) {
	for want, h := range map[string]api.Header{firstBytes: aFirst, laterBytes: aLater, header(api.Header{}): {}, header(api.Header{First: true}): {First: true}} {
		if b, ok := wire.HeaderBytes(h); !ok || string(b) != want {
			t.Errorf("HeaderBytes(%v): %x %t, want %x", h, b, ok, want)
		}
	}
	d := drawer(2)
	for range 400 {
		h := d.header()
		if b, ok := wire.HeaderBytes(h); !ok || string(b) != header(h) {
			t.Errorf("HeaderBytes(%v): %x %t", h, b, ok)
		}
	}
}

func TestHeaderBytesOfNoFirstLetter(t *testing.T) {
	for _, h := range []api.Header{{}, {First: true}, {First: true, Agree: keys(1), Signer: keys(2), Base: keys(3), Id: 4}, {Session: keys(1), Ratchet: keys(2), N: 3, Prev: 4}} {
		eachLeaf(h, func(path string, x api.Header) {
			b, ok := wire.HeaderBytes(x)
			can := x.First || x.Agree == api.Key{} && x.Signer == api.Key{} && x.Base == api.Key{} && x.Id == 0
			if ok != can || can && string(b) != header(x) || !can && len(b) != 0 {
				t.Errorf("HeaderBytes of %v with %s: %x %t", h, path, b, ok)
			}
		})
	}
}
