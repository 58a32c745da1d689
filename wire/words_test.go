package wire_test

import (
	"encoding/binary"
	"reflect"
	"strings"

	"missive/api"
	"missive/wire"
)

// What the chapter's table says is put down here a second time, by other means: writers that ask nothing, and tests of bytes that make nothing of them.

// join is a joined text.
func join(pieces ...string) string {
	b := string([]byte{byte(len(pieces))})
	for _, p := range pieces {
		b += number(len(p), 2) + p
	}
	return b
}

// split are a joined text's pieces.
func split(b string) (pieces []string, ok bool) {
	if b == "" || b[0] > 64 {
		return nil, false
	}
	count, rest := int(b[0]), b[1:]
	for range count {
		if len(rest) < 2 {
			return nil, false
		}
		n := int(rest[0])*256 + int(rest[1])
		if n > 4096 || len(rest) < 2+n {
			return nil, false
		}
		pieces, rest = append(pieces, rest[2:2+n]), rest[2+n:]
	}
	return pieces, rest == ""
}

// number are the last bytes of n.
func number[N byte | uint16 | uint32 | int](n N, size int) string {
	return string(binary.BigEndian.AppendUint64(nil, uint64(n))[8-size:])
}

// many is a text of n bytes, all the same.
func many(b byte, n int) string { return strings.Repeat(string([]byte{b}), n) }

// each is what f makes of the things.
func each[T any](f func(T) string, things []T) (l []string) {
	for _, x := range things {
		l = append(l, f(x))
	}
	return l
}

func bundle(x api.Bundle) string {
	return join(number(x.Device, 1), string(x.Agree[:]), string(x.Signer[:]), number(x.Id, 2), string(x.Once[:]), string(x.Sig[:]))
}

func header(h api.Header) string {
	first := "\x00"
	if h.First {
		first = "\x01"
	}
	return join(string(h.Session[:]), first, string(h.Agree[:]), string(h.Signer[:]), string(h.Base[:]), number(h.Id, 2), string(h.Ratchet[:]), number(h.N, 2), number(h.Prev, 2))
}

func letter(x api.Letter) string {
	return join(number(x.From, 1), number(x.To, 1), header(x.Header), string(x.Body))
}

func vouch(x api.Vouch) string { return number(x.Notary, 1) + string(x.Sig[:]) }

func object(x api.Object) string {
	l := []string{number(x.Server, 1), number(x.N, 1), string(x.Key[:]), number(x.From, 4), number(x.Until, 4), string(x.Sig[:])}
	return join(append(l, each(vouch, x.Vouches)...)...)
}

func item(x api.Item) string {
	kind, asker := number(x.Kind, 1), number(x.Asker, 1)
	switch x.Kind {
	case 1:
		return join(kind, letter(x.Letter))
	case 2, 4:
		return join(kind, asker, number(x.Peer, 1))
	case 3:
		return join(kind, asker, bundle(x.Bundle))
	}
	return join(kind, object(x.Object))
}

func call(x api.Call) string {
	l := []string{number(x.Kind, 1), number(x.Seq, 2)}
	switch x.Kind {
	case 1:
		return join(append(l, each(bundle, x.Bundles)...)...)
	case 2:
		return join(append(l, number(x.Peer, 1))...)
	case 3:
		return join(append(l, letter(x.Letter))...)
	}
	return join(append(l, number(x.Since, 2))...)
}

func reply(x api.Reply) string {
	l := []string{number(x.Seq, 2), number(x.Why, 1), number(x.From, 2)}
	return join(append(l, each(item, x.Items)...)...)
}

func trans(x api.Trans) string {
	return join(append([]string{number(x.Id, 2)}, each(item, x.Items)...)...)
}

func packet(x api.Packet) string {
	return join(number(x.From, 1), number(x.To, 1), number(x.Kind, 1), join(each(object, x.Chain)...), string(x.Body), string(x.Sig[:]))
}

// check asks whether a piece is right.
type check func(piece string) bool

// sized asks for just n bytes.
func sized(n int) check { return func(p string) bool { return len(p) == n } }

func anything(string) bool { return true }

func isFlag(p string) bool { return p == "\x00" || p == "\x01" }

// isRow asks for a joined text whose pieces pass the checks, one each; behind them there may stand as many as most that pass rest.
func isRow(b string, most int, rest check, checks ...check) bool {
	l, ok := split(b)
	if !ok || len(l) < len(checks) || len(l) > len(checks)+most {
		return false
	}
	for i, p := range l {
		if i < len(checks) && !checks[i](p) || i >= len(checks) && !rest(p) {
			return false
		}
	}
	return true
}

func isBundle(b string) bool {
	return isRow(b, 0, nil, sized(1), sized(32), sized(32), sized(2), sized(32), sized(64))
}

func isHeader(b string) bool {
	if !isRow(b, 0, nil, sized(32), isFlag, sized(32), sized(32), sized(32), sized(2), sized(32), sized(2), sized(2)) {
		return false
	}
	l, _ := split(b)
	return l[1] == "\x01" || strings.Join(l[2:6], "") == many(0, 98)
}

func isLetter(b string) bool { return isRow(b, 0, nil, sized(1), sized(1), isHeader, anything) }

func isObject(b string) bool {
	return isRow(b, 4, sized(65), sized(1), sized(1), sized(32), sized(4), sized(4), sized(64))
}

func isItem(b string) bool {
	l, ok := split(b)
	if !ok || len(l) == 0 {
		return false
	}
	switch l[0] {
	case "\x01":
		return isRow(b, 0, nil, anything, isLetter)
	case "\x02", "\x04":
		return isRow(b, 0, nil, anything, sized(1), sized(1))
	case "\x03":
		return isRow(b, 0, nil, anything, sized(1), isBundle)
	case "\x05", "\x06":
		return isRow(b, 0, nil, anything, isObject)
	}
	return false
}

func isCall(b string) bool {
	l, ok := split(b)
	if !ok || len(l) == 0 {
		return false
	}
	switch l[0] {
	case "\x01":
		return isRow(b, 9, isBundle, anything, sized(2))
	case "\x02":
		return isRow(b, 0, nil, anything, sized(2), sized(1))
	case "\x03":
		return isRow(b, 0, nil, anything, sized(2), isLetter)
	case "\x04":
		return isRow(b, 0, nil, anything, sized(2), sized(2))
	}
	return false
}

func isReply(b string) bool { return isRow(b, 4, isItem, sized(2), sized(1), sized(2)) }

func isTrans(b string) bool { return isRow(b, 4, isItem, sized(2)) }

func isChain(b string) bool { return isRow(b, 4, isObject) }

func isPacket(b string) bool {
	known := func(p string) bool { return len(p) == 1 && p[0] >= 1 && p[0] <= 4 }
	return isRow(b, 0, nil, sized(1), sized(1), known, isChain, anything, sized(64))
}

// face is one pair of Put and Get, and what is known of it.
type face struct {
	name   string
	zero   any
	put    func(x any) ([]byte, bool)
	get    func(b string) (any, api.Errno)
	writes func(x any) string // as what is written, if it can be
	is     check              // whether something is written so
	kind   int                // which piece is the Kind; below 0, if none is
	kinds  byte               // how many kinds there are
	draw   func(d *drawer) any
}

// faceOf makes a face of calls of one type.
func faceOf[T any](name string, put func(T) ([]byte, bool), get func([]byte) (T, api.Errno), writes func(T) string, is check, draw func(*drawer) T) face {
	return face{
		name:   name,
		zero:   *new(T),
		put:    func(x any) ([]byte, bool) { return put(x.(T)) },
		get:    func(b string) (any, api.Errno) { return get([]byte(b)) },
		writes: func(x any) string { return writes(x.(T)) },
		is:     is,
		kind:   -1,
		draw:   func(d *drawer) any { return draw(d) },
	}
}

// kinded is a face whose things have kinds.
func (f face) kinded(piece int, kinds byte) face {
	f.kind, f.kinds = piece, kinds
	return f
}

func faces() []face {
	return []face{
		faceOf("Bundle", wire.PutBundle, wire.GetBundle, bundle, isBundle, (*drawer).bundle),
		faceOf("Letter", wire.PutLetter, wire.GetLetter, letter, isLetter, (*drawer).letter),
		faceOf("Object", wire.PutObject, wire.GetObject, object, isObject, (*drawer).object),
		faceOf("Item", wire.PutItem, wire.GetItem, item, isItem, (*drawer).item).kinded(0, 6),
		faceOf("Call", wire.PutCall, wire.GetCall, call, isCall, (*drawer).call).kinded(0, 4),
		faceOf("Reply", wire.PutReply, wire.GetReply, reply, isReply, (*drawer).reply),
		faceOf("Trans", wire.PutTrans, wire.GetTrans, trans, isTrans, (*drawer).trans),
		faceOf("Packet", wire.PutPacket, wire.GetPacket, packet, isPacket, (*drawer).packet).kinded(2, 4),
	}
}

// error is what Get of b must tell.
func (f face) error(b string) api.Errno {
	l, ok := split(b)
	if ok && f.kind >= 0 && f.kind < len(l) && len(l[f.kind]) == 1 {
		if k := l[f.kind][0]; k == 0 || k > f.kinds {
			return api.ErrKind
		}
	}
	if !f.is(b) {
		return api.ErrForm
	}
	return api.OK
}

// alike tells whether two things of one type are the same, nil and empty lists being one.
func alike(x, y any) bool { return same(reflect.ValueOf(x), reflect.ValueOf(y)) }

func same(x, y reflect.Value) bool {
	switch x.Kind() {
	case reflect.Struct:
		for i := range x.NumField() {
			if !same(x.Field(i), y.Field(i)) {
				return false
			}
		}
		return true
	case reflect.Slice:
		if x.Len() != y.Len() {
			return false
		}
		for i := range x.Len() {
			if !same(x.Index(i), y.Index(i)) {
				return false
			}
		}
		return true
	}
	return x.Equal(y)
}

// drawer makes things that look like thrown ones, the same each time. Each of them can be written.
type drawer uint64

func (d *drawer) below(n int) int {
	*d = *d*6364136223846793005 + 1442695040888963407
	return int(*d>>33) % n
}

func (d *drawer) byte() byte { return byte(d.below(256)) }

func (d *drawer) two() uint16 { return uint16(d.below(65536)) }

func (d *drawer) four() uint32 { return uint32(d.two())<<16 | uint32(d.two()) }

func (d *drawer) text(n int) []byte {
	b := make([]byte, n)
	for i := range b {
		b[i] = d.byte()
	}
	return b
}

func (d *drawer) key() api.Key { return api.Key(d.text(32)) }

func (d *drawer) sig() api.Sig { return api.Sig(d.text(64)) }

func (d *drawer) bundle() api.Bundle {
	return api.Bundle{Device: d.byte(), Agree: d.key(), Signer: d.key(), Id: d.two(), Once: d.key(), Sig: d.sig()}
}

func (d *drawer) header() api.Header {
	h := api.Header{Session: d.key(), Ratchet: d.key(), N: d.two(), Prev: d.two()}
	if d.below(2) == 0 {
		h.First, h.Agree, h.Signer, h.Base, h.Id = true, d.key(), d.key(), d.key(), d.two()
	}
	return h
}

func (d *drawer) letter() api.Letter {
	return api.Letter{From: d.byte(), To: d.byte(), Header: d.header(), Body: d.text(d.below(50))}
}

func (d *drawer) vouch() api.Vouch { return api.Vouch{Notary: d.byte(), Sig: d.sig()} }

func (d *drawer) object() api.Object {
	return api.Object{Server: d.byte(), N: d.byte(), Key: d.key(), From: d.four(), Until: d.four(), Sig: d.sig(), Vouches: some(d, 4, (*drawer).vouch)}
}

func (d *drawer) item() api.Item {
	x := api.Item{Kind: byte(1 + d.below(6))}
	switch x.Kind {
	case 1:
		x.Letter = d.letter()
	case 2, 4:
		x.Asker, x.Peer = d.byte(), d.byte()
	case 3:
		x.Asker, x.Bundle = d.byte(), d.bundle()
	case 5, 6:
		x.Object = d.object()
	}
	return x
}

func (d *drawer) call() api.Call {
	x := api.Call{Kind: byte(1 + d.below(4)), Seq: d.two()}
	switch x.Kind {
	case 1:
		x.Bundles = some(d, 9, (*drawer).bundle)
	case 2:
		x.Peer = d.byte()
	case 3:
		x.Letter = d.letter()
	case 4:
		x.Since = d.two()
	}
	return x
}

func (d *drawer) reply() api.Reply {
	return api.Reply{Seq: d.two(), Why: d.byte(), From: d.two(), Items: some(d, 4, (*drawer).item)}
}

func (d *drawer) trans() api.Trans {
	return api.Trans{Id: d.two(), Items: some(d, 4, (*drawer).item)}
}

func (d *drawer) packet() api.Packet {
	return api.Packet{From: d.byte(), To: d.byte(), Kind: byte(1 + d.below(4)), Chain: some(d, 4, (*drawer).object), Body: d.text(d.below(200)), Sig: d.sig()}
}

// some are up to most things.
func some[T any](d *drawer, most int, draw func(*drawer) T) (l []T) {
	for range d.below(most + 1) {
		l = append(l, draw(d))
	}
	return l
}
