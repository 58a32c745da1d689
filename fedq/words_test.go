package fedq_test

import (
	"bytes"
	"encoding/binary"
	"fmt"
	"math"
	"slices"
	"testing"

	"missive/api"
	"missive/fedq"
)

// The chapter's words, put down a second time, and what is asked by them.

// joined is the joined text of the pieces.
func joined(pieces ...[]byte) []byte {
	b := []byte{byte(len(pieces))}
	for _, p := range pieces {
		b = append(append(b, byte(len(p)/256), byte(len(p)%256)), p...)
	}
	return b
}

// split are a joined text's pieces.
func split(b []byte) (pieces [][]byte, ok bool) {
	if len(b) == 0 || b[0] > 64 {
		return nil, false
	}
	count, b := int(b[0]), b[1:]
	for range count {
		if len(b) < 2 {
			return nil, false
		}
		n := int(b[0])*256 + int(b[1])
		if n > 4096 || len(b) < 2+n {
			return nil, false
		}
		pieces, b = append(pieces, b[2:2+n]), b[2+n:]
	}
	return pieces, len(b) == 0
}

// sized are a joined text's pieces, if they have these lengths; any has just one of -1.
func sized(b []byte, sizes ...int) ([][]byte, bool) {
	l, ok := split(b)
	if !ok || len(l) != len(sizes) {
		return nil, false
	}
	for i, n := range sizes {
		if n >= 0 && len(l[i]) != n {
			return nil, false
		}
	}
	return l, true
}

func two(n uint16) []byte { return binary.BigEndian.AppendUint16(nil, n) }

func four(n uint32) []byte { return binary.BigEndian.AppendUint32(nil, n) }

func flag(set bool) []byte {
	if set {
		return []byte{1}
	}
	return []byte{0}
}

// The bytes of what an item may have.

func headerBytes(h api.Header) []byte {
	return joined(h.Session[:], flag(h.First), h.Agree[:], h.Signer[:], h.Base[:], two(h.Id), h.Ratchet[:], two(h.N), two(h.Prev))
}

func letterBytes(x api.Letter) []byte {
	return joined([]byte{x.From}, []byte{x.To}, headerBytes(x.Header), x.Body)
}

func bundleBytes(x api.Bundle) []byte {
	return joined([]byte{x.Device}, x.Agree[:], x.Signer[:], two(x.Id), x.Once[:], x.Sig[:])
}

func objectBytes(x api.Object) []byte {
	l := [][]byte{{x.Server}, {x.N}, x.Key[:], four(x.From), four(x.Until), x.Sig[:]}
	for _, v := range x.Vouches {
		l = append(l, append([]byte{v.Notary}, v.Sig[:]...))
	}
	return joined(l...)
}

// itemBytes are an item's bytes, if it can be written.
func itemBytes(x api.Item) ([]byte, bool) {
	var l [][]byte
	bare := api.Item{Kind: x.Kind}
	switch x.Kind {
	case 1:
		bare.Letter = x.Letter
		l = [][]byte{letterBytes(x.Letter)}
	case 2, 4:
		bare.Asker, bare.Peer = x.Asker, x.Peer
		l = [][]byte{{x.Asker}, {x.Peer}}
	case 3:
		bare.Asker, bare.Bundle = x.Asker, x.Bundle
		l = [][]byte{{x.Asker}, bundleBytes(x.Bundle)}
	case 5, 6:
		bare.Object = x.Object
		l = [][]byte{objectBytes(x.Object)}
	default:
		return nil, false
	}
	h := x.Letter.Header
	begun := h.First || h.Agree == api.Key{} && h.Signer == api.Key{} && h.Base == api.Key{} && h.Id == 0
	if !alike(x, bare) || !begun || len(x.Object.Vouches) > 4 || len(l[0]) > 4096 {
		return nil, false
	}
	return joined(slices.Concat([][]byte{{x.Kind}}, l)...), true
}

// itemOf is the item whose bytes b are.
func itemOf(b []byte) (x api.Item, ok bool) {
	l, ok := split(b)
	if !ok || len(l) < 2 || len(l[0]) != 1 {
		return x, false
	}
	x.Kind = l[0][0]
	if x.Kind != 1 && x.Kind < 5 && len(l[1]) == 1 {
		x.Asker = l[1][0]
	}
	switch {
	case x.Kind == 1:
		x.Letter = letterOf(l[1])
	case x.Kind == 2 && len(l) == 3 && len(l[2]) == 1, x.Kind == 4 && len(l) == 3 && len(l[2]) == 1:
		x.Peer = l[2][0]
	case x.Kind == 3 && len(l) == 3:
		x.Bundle = bundleOf(l[2])
	case x.Kind == 5 || x.Kind == 6:
		x.Object = objectOf(l[1])
	}
	again, ok := itemBytes(x)
	return x, ok && bytes.Equal(again, b)
}

func letterOf(b []byte) (x api.Letter) {
	l, ok := sized(b, 1, 1, -1, -1)
	if !ok {
		return x
	}
	h, ok := sized(l[2], 32, 1, 32, 32, 32, 2, 32, 2, 2)
	if !ok {
		return x
	}
	x = api.Letter{From: l[0][0], To: l[1][0], Body: l[3]}
	x.Header = api.Header{
		Session: api.Key(h[0]), First: h[1][0] == 1, Agree: api.Key(h[2]), Signer: api.Key(h[3]), Base: api.Key(h[4]), Id: number(h[5]),
		Ratchet: api.Key(h[6]), N: number(h[7]), Prev: number(h[8]),
	}
	return x
}

func number(b []byte) uint16 { return binary.BigEndian.Uint16(b) }

func bundleOf(b []byte) (x api.Bundle) {
	l, ok := sized(b, 1, 32, 32, 2, 32, 64)
	if !ok {
		return x
	}
	return api.Bundle{Device: l[0][0], Agree: api.Key(l[1]), Signer: api.Key(l[2]), Id: number(l[3]), Once: api.Key(l[4]), Sig: api.Sig(l[5])}
}

func objectOf(b []byte) (x api.Object) {
	l, _ := split(b)
	sizes := []int{1, 1, 32, 4, 4, 64, 65, 65, 65, 65}
	if len(l) < 6 || len(l) > 10 {
		return x
	}
	if _, ok := sized(b, sizes[:len(l)]...); !ok {
		return x
	}
	x = api.Object{Server: l[0][0], N: l[1][0], Key: api.Key(l[2]), From: binary.BigEndian.Uint32(l[3]), Until: binary.BigEndian.Uint32(l[4]), Sig: api.Sig(l[5])}
	for _, v := range l[6:] {
		x.Vouches = append(x.Vouches, api.Vouch{Notary: v[0], Sig: api.Sig(v[1:])})
	}
	return x
}

// laid is the item, stood the queue, handed the transaction, in memory of its own, none and empty being one.
func laid(x api.Item) api.Item {
	x.Letter.Body = append([]byte(nil), x.Letter.Body...)
	x.Object.Vouches = append([]api.Vouch(nil), x.Object.Vouches...)
	return x
}

func row(l []api.Item) (m []api.Item) {
	for _, x := range l {
		m = append(m, laid(x))
	}
	return m
}

func stood(q api.Queue) api.Queue {
	q.Items = row(q.Items)
	return q
}

func handed(x api.Trans) api.Trans {
	x.Items = row(x.Items)
	return x
}

// alike tells whether two items are, same whether two queues are, equal whether two transactions are.
func alike(x, y api.Item) bool {
	a, b, c, d := x.Letter, y.Letter, x.Object, y.Object
	return x.Kind == y.Kind && x.Asker == y.Asker && x.Peer == y.Peer && x.Bundle == y.Bundle &&
		a.From == b.From && a.To == b.To && a.Header == b.Header && bytes.Equal(a.Body, b.Body) &&
		c.Server == d.Server && c.N == d.N && c.Key == d.Key && c.From == d.From && c.Until == d.Until && c.Sig == d.Sig && slices.Equal(c.Vouches, d.Vouches)
}

func same(q, p api.Queue) bool {
	return q.Sent == p.Sent && q.Id == p.Id && q.Wait == p.Wait && q.Back == p.Back && slices.EqualFunc(q.Items, p.Items, alike)
}

func equal(x, y api.Trans) bool { return x.Id == y.Id && slices.EqualFunc(x.Items, y.Items, alike) }

// kept are the rows, in memory of their own.
func kept(l []api.Change) (m []api.Change) {
	for _, c := range l {
		c.Value = append([]byte(nil), c.Value...)
		m = append(m, c)
	}
	return m
}

func sameRows(l, m []api.Change) bool {
	return slices.EqualFunc(l, m, func(r, s api.Change) bool {
		return r.Name == s.Name && r.Gone == s.Gone && bytes.Equal(r.Value, s.Value)
	})
}

// brief is a queue as it is told where something is wrong.
func brief(q api.Queue) string {
	s := fmt.Sprintf("%d items (", len(q.Items))
	for _, x := range q.Items {
		s += fmt.Sprintf(" %d/%d/%d", x.Kind, x.Asker, x.Peer)
	}
	return s + fmt.Sprintf(" ), Sent %d, Id %d, Wait %d, Back %d", q.Sent, q.Id, q.Wait, q.Back)
}

// put, tick, poll, acked and take ask the package, and hold what it answers against the words.

func put(t *testing.T, q api.Queue, x api.Item) (api.Queue, api.Errno) {
	t.Helper()
	was, given := stood(q), laid(x)
	got, e := fedq.Put(q, x)
	b, ok := itemBytes(x)
	want, wanted := api.OK, stood(q)
	if !ok {
		want = api.ErrForm
	} else if len(b) > 900 {
		want = api.ErrLong
	} else if len(q.Items) >= 8 {
		want = api.ErrFull
	} else {
		wanted.Items = append(wanted.Items, laid(x))
	}
	if e != want || !same(got, wanted) {
		t.Fatalf("Put of %d/%d/%d in %s: %d, %s, want %d, %s", x.Kind, x.Asker, x.Peer, brief(q), e, brief(got), want, brief(wanted))
	}
	if !same(q, was) || !alike(x, given) {
		t.Fatal("Put changed what it was given")
	}
	return got, e
}

func tick(t *testing.T, q api.Queue) api.Queue {
	t.Helper()
	was, want := stood(q), stood(q)
	got := fedq.Tick(q)
	if want.Wait != 0 {
		want.Wait--
	}
	if !same(got, want) {
		t.Fatalf("Tick of %s: %s", brief(q), brief(got))
	}
	if !same(q, was) {
		t.Fatal("Tick changed the queue")
	}
	return got
}

func poll(t *testing.T, q api.Queue) (api.Queue, api.Trans, bool) {
	t.Helper()
	was, want := stood(q), stood(q)
	got, x, ok := fedq.Poll(q)
	var trans api.Trans
	due := len(q.Items) != 0 && q.Wait == 0 && (q.Sent != 0 || q.Id < 65535)
	if due && q.Sent == 0 {
		want.Id = q.Id + 1
		for want.Sent < 4 && want.Sent < len(q.Items) {
			want.Sent++
		}
		want.Wait, want.Back = 1, 1
	} else if due && q.Back < 8 {
		want.Wait, want.Back = q.Back+q.Back, q.Back+q.Back
	} else if due {
		want.Wait, want.Back = 16, 16
	}
	if due {
		trans.Id = want.Id
		for i, x := range want.Items {
			if i < want.Sent {
				trans.Items = append(trans.Items, x)
			}
		}
	}
	if ok != due || !same(got, want) || !equal(x, trans) {
		t.Fatalf("Poll of %s: %s, %t, %d with %d items, want %s, %t, %d with %d items", brief(q), brief(got), ok, x.Id, len(x.Items), brief(want), due, trans.Id, len(trans.Items))
	}
	if !same(q, was) {
		t.Fatal("Poll changed the queue")
	}
	return got, x, ok
}

func acked(t *testing.T, q api.Queue, id uint16) (api.Queue, bool) {
	t.Helper()
	was, want := stood(q), stood(q)
	got, ok := fedq.Acked(q, id)
	right := q.Sent > 0 && q.Id == id
	if right {
		want = api.Queue{Id: id}
		for i, x := range q.Items {
			if i >= q.Sent {
				want.Items = append(want.Items, laid(x))
			}
		}
	}
	if ok != right || !same(got, want) {
		t.Fatalf("Acked(%s, %d): %s, %t, want %s, %t", brief(q), id, brief(got), ok, brief(want), right)
	}
	if !same(q, was) {
		t.Fatal("Acked changed the queue")
	}
	return got, ok
}

func take(t *testing.T, last, id uint16) (uint16, bool, bool) {
	t.Helper()
	n, do, told := fedq.Take(last, id)
	next := uint32(last)+1 == uint32(id)
	known := id != 0 && id <= last
	want := last
	if next {
		want = id
	}
	if n != want || do != next || told != (next || known) {
		t.Fatalf("Take(%d, %d): %d %t %t, want %d %t %t", last, id, n, do, told, want, next, next || known)
	}
	return n, do, told
}

// rowsOf are the rows of a queue, by the words.
func rowsOf(name string, q api.Queue) (l []api.Change, ok bool) {
	if len(name) > 31 || len(q.Items) > 8 || q.Sent < 0 || q.Sent > 4 || q.Sent > len(q.Items) {
		return nil, false
	}
	var first, others [][]byte
	for i, x := range q.Items {
		b, ok := itemBytes(x)
		if !ok || len(b) > 900 {
			return nil, false
		}
		if i < 4 {
			first = append(first, b)
		} else {
			others = append(others, b)
		}
	}
	head := joined(two(q.Id), []byte{byte(q.Sent)}, []byte{q.Wait}, []byte{q.Back}, []byte{byte(len(q.Items))})
	l = []api.Change{{Name: name + "h", Value: head}}
	if len(first) > 0 {
		l = append(l, api.Change{Name: name + "0", Value: joined(first...)})
	}
	if len(others) > 0 {
		l = append(l, api.Change{Name: name + "1", Value: joined(others...)})
	}
	return l, true
}

// queueOf is the queue whose rows are those of l, by the words.
func queueOf(name string, l []api.Change) (q api.Queue, ok bool) {
	found := map[string]api.Change{}
	for _, c := range slices.Backward(l) {
		found[c.Name] = c
	}
	head, ok := sized(found[name+"h"].Value, 2, 1, 1, 1, 1)
	if !ok || len(name) > 31 || head[4][0] > 8 {
		return api.Queue{}, false
	}
	q = api.Queue{Id: number(head[0]), Sent: int(head[1][0]), Wait: head[2][0], Back: head[3][0]}
	count := int(head[4][0])
	for i, end := range []string{"h", "0", "1"} {
		r, there := found[name+end]
		if there != (end == "h" || count > 4*(i-1)) || r.Gone {
			return api.Queue{}, false
		}
		pieces, ok := split(r.Value)
		if there && (!ok || end != "h" && len(pieces) != min(4, count-4*(i-1))) {
			return api.Queue{}, false
		}
		for j := 0; end != "h" && j < len(pieces); j++ {
			x, ok := itemOf(pieces[j])
			if !ok || len(pieces[j]) > 900 {
				return api.Queue{}, false
			}
			q.Items = append(q.Items, x)
		}
	}
	if q.Sent > 4 || q.Sent > count {
		return api.Queue{}, false
	}
	return q, true
}

// rows asks for a queue's rows, load for the queue of some.
func rows(t *testing.T, name string, q api.Queue) ([]api.Change, bool) {
	t.Helper()
	was := stood(q)
	got, ok := fedq.Rows(name, q)
	want, wanted := rowsOf(name, q)
	if ok != wanted || !sameRows(got, want) {
		t.Fatalf("Rows(%q, %s): %v %t, want %v %t", name, brief(q), got, ok, want, wanted)
	}
	if !same(q, was) {
		t.Fatal("Rows changed the queue")
	}
	return got, ok
}

func load(t *testing.T, name string, l []api.Change) (api.Queue, bool) {
	t.Helper()
	was := kept(l)
	got, ok := fedq.Load(name, l)
	want, wanted := queueOf(name, l)
	if ok != wanted || !same(got, want) {
		t.Fatalf("Load(%q, %v): %s %t, want %s %t", name, l, brief(got), ok, brief(want), wanted)
	}
	if !sameRows(l, was) {
		t.Fatal("Load changed the rows")
	}
	return got, ok
}

// drawer makes numbers and keys that look like thrown ones, the same each time.
type drawer uint64

func (d *drawer) below(n int) int {
	*d = *d*6364136223846793005 + 1442695040888963407
	return int(uint64(*d) >> 33 % uint64(n))
}

func (d *drawer) text(n int) []byte {
	b := make([]byte, n)
	for i := range b {
		b[i] = byte(d.below(256))
	}
	return b
}

func (d *drawer) key() api.Key { return api.Key(d.text(32)) }

func (d *drawer) number() uint16 { return uint16(d.below(65536)) }

func (d *drawer) byte() byte { return byte(d.below(256)) }

// letter is one of any fields, with so many bytes in its body.
func (d *drawer) letter(body int) api.Letter {
	h := api.Header{Session: d.key(), First: d.below(2) == 1, Ratchet: d.key(), N: d.number(), Prev: d.number()}
	if h.First {
		h.Agree, h.Signer, h.Base, h.Id = d.key(), d.key(), d.key(), d.number()
	}
	return api.Letter{From: d.byte(), To: d.byte(), Header: h, Body: d.text(body)}
}

func (d *drawer) bundle() api.Bundle {
	return api.Bundle{Device: d.byte(), Agree: d.key(), Signer: d.key(), Id: d.number(), Once: d.key(), Sig: api.Sig(d.text(64))}
}

// object is one of any fields, with so many vouches.
func (d *drawer) object(vouches int) api.Object {
	x := api.Object{Server: d.byte(), N: d.byte(), Key: d.key(), From: uint32(d.below(1 << 31)), Until: uint32(d.below(1 << 31)), Sig: api.Sig(d.text(64))}
	for range vouches {
		x.Vouches = append(x.Vouches, api.Vouch{Notary: d.byte(), Sig: api.Sig(d.text(64))})
	}
	return x
}

// item is one of that kind, of any fields.
func (d *drawer) item(kind byte) api.Item {
	x := api.Item{Kind: kind}
	switch kind {
	case api.ItemLetter:
		x.Letter = d.letter(d.below(120))
	case api.ItemAsk, api.ItemNone:
		x.Asker, x.Peer = d.byte(), d.byte()
	case api.ItemGive:
		x.Asker, x.Bundle = d.byte(), d.bundle()
	case api.ItemVouch, api.ItemVouched:
		x.Object = d.object(d.below(5))
	}
	return x
}

// items are so many, of any kinds.
func (d *drawer) items(n int) (l []api.Item) {
	for range n {
		l = append(l, d.item(byte(1+d.below(6))))
	}
	return l
}

// queue is one of so many items, that may be kept.
func (d *drawer) queue(n int) api.Queue {
	return api.Queue{Items: d.items(n), Sent: d.below(min(n, 4) + 1), Id: d.number(), Wait: byte(d.below(20)), Back: byte(d.below(20))}
}

// ask is the item of that number.
func ask(n int) api.Item { return api.Item{Kind: api.ItemAsk, Asker: byte(n >> 8), Peer: byte(n)} }

// asks are the items of the numbers from first on.
func asks(first, n int) (l []api.Item) {
	for i := range n {
		l = append(l, ask(first+i))
	}
	return l
}

// bodied is a letter whose body has so many bytes.
func bodied(n int) api.Item {
	return api.Item{Kind: api.ItemLetter, Letter: api.Letter{From: 1, To: 2, Header: api.Header{Session: api.Key{3}, N: 4}, Body: bytes.Repeat([]byte{5}, n)}}
}

// sents are how many may be said to be under way, of whatever queue.
func sents() []int {
	return []int{math.MinInt, math.MinInt32, -256, -4, -1, 0, 1, 2, 3, 4, 5, 6, 7, 8, 9, 10, 63, 64, 255, 256, 257, 260, 65536, math.MaxInt32, math.MaxInt}
}

// with is the list with x at that place.
func with[T any](l []T, at int, x T) []T {
	l = slices.Clone(l)
	l[at] = x
	return l
}
