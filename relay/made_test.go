package relay_test

import (
	"bytes"
	"testing"

	"missive/account"
	"missive/api"
	"missive/relay"
	"missive/suite"
	"missive/wire"
)

// What is handed in: servers, devices, and what they send.

// run is the key of the bytes from n on.
func run(n byte) (k api.Key) {
	for i := range k {
		k[i] = n + byte(i)
	}
	return k
}

// secret is that of the server's key of that number; the first one is known to all by its signer.
func secret(server, n byte) api.Key { return run(16*server + 4*n + 1) }

// device is an account of the device d that has keys of these numbers, beside the fallback.
func device(d byte, ids ...uint16) api.Account {
	x := api.Account{Agree: run(100 + d), Sign: run(120 + d), Fallback: api.Once{Secret: run(140 + d)}}
	for _, id := range ids {
		x.Left = append(x.Left, api.Once{Id: id, Secret: run(160 + d + byte(16*id))})
	}
	return x
}

// bundles are the device's fallback, and its keys of these numbers.
func (a asker) bundles(d byte, ids ...uint16) []api.Bundle {
	return both(a, func(s suite.Suite) []api.Bundle { return account.Bundles(s, device(d, ids...), d) })
}

// shelf is one with these keys of the device.
func (a asker) shelf(d byte, ids ...uint16) api.Shelf {
	l := a.bundles(d, ids...)
	x := api.Shelf{Has: true, Fallback: l[0], Left: l[1:]}
	for _, id := range ids {
		x.Last = id
	}
	return x
}

// cache knows the first keys of these servers.
func (a asker) cache(need byte, servers ...byte) (c api.Cache) {
	c.Need = need
	for _, n := range servers {
		c.First[n] = both(a, func(s suite.Suite) api.Key { return s.Signer(secret(n, 0)) })
	}
	return c
}

// home is that of the device d, at which nothing was done.
func (a asker) home(d byte) (h api.Home) {
	both(a, func(s suite.Suite) int {
		h.Agree, h.Signer = account.Public(s, device(d))
		return 0
	})
	return h
}

// relay is a server whose last place has nobody; all four servers are there.
func (a asker) relay(server, need byte) api.Relay {
	a.Helper()
	var homes [4]api.Home
	for place := range byte(3) {
		homes[place] = a.home(4*server + place)
	}
	homes[3].Agree = run(7)
	return a.begin(server, secret(server, 0), a.cache(need, 0, 1, 2, 3), homes)
}

// begin asks for a new server.
func (a asker) begin(server byte, first api.Key, c api.Cache, homes [4]api.Home) api.Relay {
	a.Helper()
	from := a.count()
	got := relay.New(a.s, server, first, c, homes)
	want := api.Relay{Server: server, Secret: first, First: first, Cache: c}
	for n, h := range homes {
		want.Homes[n].Agree, want.Homes[n].Signer = h.Agree, h.Signer
	}
	if d := differs(got, want); d != "" {
		a.Fatalf("New(%d, %x, %v, %v): %s", server, first, c, homes, d)
	}
	a.terms(from)
	return got
}

// signed are the bytes of the packet, signed by the secret.
func (a asker) signed(by api.Key, p api.Packet) []byte {
	a.Helper()
	p.Sig = both(a, func(s suite.Suite) api.Sig { return s.Sign(by, packetText(p)) })
	b, ok := wire.PutPacket(p)
	if !ok {
		a.Fatalf("the packet %v can't be written", p)
	}
	return b
}

// calls is what the device sends to its server.
func (a asker) calls(d byte, c api.Call) []byte {
	a.Helper()
	return a.signed(run(120+d), a.callOf(d, c))
}

func (a asker) callOf(d byte, c api.Call) api.Packet {
	a.Helper()
	b, ok := wire.PutCall(c)
	if !ok {
		a.Fatalf("the call %v can't be written", c)
	}
	return api.Packet{From: 16 + d, To: d / 4, Kind: api.PackCall, Body: b}
}

// chain are so many keys of the server, each with vouches of these servers.
func (a asker) chain(server byte, keys int, notaries ...byte) (l []api.Object) {
	for n := range byte(keys) {
		l = append(l, a.object(server, n+1, notaries...))
	}
	return l
}

// object is the server's key of that number, signed by the key ahead, with vouches of these servers.
func (a asker) object(server, n byte, notaries ...byte) api.Object {
	x := api.Object{Server: server, N: n, Until: 1<<32 - 1}
	x.Key = both(a, func(s suite.Suite) api.Key { return s.Signer(secret(server, n)) })
	x.Sig = both(a, func(s suite.Suite) api.Sig { return s.Sign(secret(server, n-1), objectText(x)) })
	return a.vouched(x, notaries...)
}

// vouched is the object, with vouches of these servers behind its own.
func (a asker) vouched(x api.Object, notaries ...byte) api.Object {
	x = laid(x)
	for _, n := range notaries {
		sig := both(a, func(s suite.Suite) api.Sig { return s.Sign(secret(n, 0), vouchText(x, n)) })
		x.Vouches = append(x.Vouches, api.Vouch{Notary: n, Sig: sig})
	}
	return x
}

// hands is a transaction of the server o to another one, by its first key; acks is an acknowledgement.
func (a asker) hands(o, to byte, id uint16, l ...api.Item) []byte {
	a.Helper()
	return a.signed(secret(o, 0), a.transOf(o, to, api.PackTrans, api.Trans{Id: id, Items: l}))
}

func (a asker) acks(o, to byte, id uint16, l ...api.Item) []byte {
	a.Helper()
	return a.signed(secret(o, 0), a.transOf(o, to, api.PackAck, api.Trans{Id: id, Items: l}))
}

func (a asker) transOf(o, to, kind byte, x api.Trans) api.Packet {
	a.Helper()
	b, ok := wire.PutTrans(x)
	if !ok {
		a.Fatalf("the transaction %v can't be written", x)
	}
	return api.Packet{From: o, To: to, Kind: kind, Body: b}
}

// letter is one of that body; ask, give and none are items.
func letter(from, to byte, body string) api.Item {
	return api.Item{Kind: api.ItemLetter, Letter: api.Letter{From: from, To: to, Header: api.Header{Session: api.Key{from}, N: 3}, Body: []byte(body)}}
}

// long is a letter whose item has so many bytes.
func long(from, to byte, size int) api.Item {
	b, _ := wire.PutItem(letter(from, to, ""))
	return letter(from, to, string(bytes.Repeat([]byte{'x'}, size-len(b))))
}

func ask(asker, peer byte) api.Item { return api.Item{Kind: api.ItemAsk, Asker: asker, Peer: peer} }

func give(asker byte, b api.Bundle) api.Item {
	return api.Item{Kind: api.ItemGive, Asker: asker, Bundle: b}
}

func none(asker, peer byte) api.Item { return api.Item{Kind: api.ItemNone, Asker: asker, Peer: peer} }

func vouch(x api.Object) api.Item { return api.Item{Kind: api.ItemVouch, Object: x} }

func vouchedFor(x api.Object) api.Item { return api.Item{Kind: api.ItemVouched, Object: x} }

// filled is a queue of so many items, of which none is under way; the last one that was has that number.
func filled(items int, id uint16) (q api.Queue) {
	for i := range items {
		q.Items = append(q.Items, none(byte(i), 9))
	}
	q.Id = id
	return q
}

// sent are the packets that a server sent, by its secret of now.
func (a asker) sent(r api.Relay, out [][]byte) (l []api.Packet) {
	a.Helper()
	signer := both(a, func(s suite.Suite) api.Key { return s.Signer(r.Secret) })
	for _, b := range out {
		p, e := wire.GetPacket(b)
		if e != api.OK || p.From != r.Server || !bytes.Equal(chainBytes(p.Chain), chainBytes(r.Chain)) || !a.s.Verify(signer, packetText(p), p.Sig) {
			a.Fatalf("what is sent isn't the server's packet: %d %v", e, p)
		}
		l = append(l, p)
	}
	return l
}

// replied is the reply that is sent first, to the device d.
func (a asker) replied(r api.Relay, out [][]byte, d byte) api.Reply {
	a.Helper()
	l := a.sent(r, out)
	if len(l) == 0 || l[0].Kind != api.PackReply || l[0].To != 16+d {
		a.Fatalf("no reply is sent to %d: %v", d, l)
	}
	y, e := wire.GetReply(l[0].Body)
	a.is("the reply", e, api.OK)
	return y
}

// called does a call, which is right, and tells the reply.
func (a asker) called(r api.Relay, d byte, c api.Call) (api.Relay, api.Reply) {
	a.Helper()
	c.Seq = r.Homes[d%4].Seq + 1
	got, out, e := a.handle(r, a.calls(d, c))
	a.is("the call", e, api.OK)
	y := a.replied(got, out, d)
	if y.Seq != c.Seq || got.Homes[d%4].Seq != c.Seq {
		a.Fatalf("the call %d is answered as %d", c.Seq, y.Seq)
	}
	return got, y
}

// trans are the transactions that are sent, by the server to which.
func (a asker) trans(r api.Relay, out [][]byte) map[byte]api.Trans {
	a.Helper()
	m := map[byte]api.Trans{}
	for _, p := range a.sent(r, out) {
		if p.Kind == api.PackTrans {
			x, e := wire.GetTrans(p.Body)
			a.is("the transaction", e, api.OK)
			m[p.To] = x
		}
	}
	return m
}

// acknowledged is what the packet that is sent first acknowledges.
func (a asker) acknowledged(r api.Relay, out [][]byte, o byte) api.Trans {
	a.Helper()
	l := a.sent(r, out)
	if len(l) == 0 || l[0].Kind != api.PackAck || l[0].To != o {
		a.Fatalf("nothing is acknowledged to %d: %v", o, l)
	}
	x, e := wire.GetTrans(l[0].Body)
	a.is("the acknowledgement", e, api.OK)
	return x
}

// drawer makes numbers and keys that look like thrown ones, the same each time.
type drawer uint64

func (d *drawer) below(n int) int {
	*d = *d*6364136223846793005 + 1442695040888963407
	return int(uint64(*d) >> 33 % uint64(n))
}

func (d *drawer) text(n int) []byte {
	b := make([]byte, n)
	for i := range b {
		b[i] = byte(d.below(256))
	}
	return b
}

func (d *drawer) key() api.Key { return api.Key(d.text(32)) }

func (d *drawer) number() uint16 { return uint16(d.below(65536)) }

func (d *drawer) byte() byte { return byte(d.below(256)) }

func (d *drawer) bundle() api.Bundle {
	return api.Bundle{Device: byte(d.below(18)), Agree: d.key(), Signer: d.key(), Id: d.number(), Once: d.key(), Sig: api.Sig(d.text(64))}
}

func (d *drawer) object(vouches int) api.Object {
	x := api.Object{Server: byte(d.below(5)), N: byte(d.below(6)), Key: d.key(), From: uint32(d.below(1 << 31)), Until: uint32(d.below(1 << 31)), Sig: api.Sig(d.text(64))}
	for range vouches {
		x.Vouches = append(x.Vouches, api.Vouch{Notary: byte(d.below(5)), Sig: api.Sig(d.text(64))})
	}
	return x
}

// item is one of any kind.
func (d *drawer) item() api.Item {
	switch asker, peer := byte(d.below(18)), byte(d.below(18)); d.below(6) {
	case 0:
		x := letter(asker, peer, string(d.text(d.below(40))))
		x.Letter.Header.Ratchet = d.key()
		return x
	case 1:
		return ask(asker, peer)
	case 2:
		return give(asker, d.bundle())
	case 3:
		return none(asker, peer)
	case 4:
		return vouch(d.object(d.below(5)))
	}
	return vouchedFor(d.object(d.below(5)))
}

func (d *drawer) items(n int) (l []api.Item) {
	for range n {
		l = append(l, d.item())
	}
	return l
}

func (d *drawer) queue() api.Queue {
	q := api.Queue{Items: d.items(d.below(9)), Id: d.number(), Wait: byte(d.below(4)), Back: byte(d.below(20))}
	q.Sent = d.below(min(len(q.Items), 4) + 1)
	return q
}

func (d *drawer) shelf() api.Shelf {
	x := api.Shelf{Last: d.number()}
	if d.below(3) > 0 {
		x.Has, x.Fallback = true, d.bundle()
	}
	for range d.below(9) {
		x.Left = append(x.Left, d.bundle())
	}
	return x
}

// maybe is a key, or zero.
func (d *drawer) maybe() api.Key {
	if d.below(4) == 0 {
		return api.Key{}
	}
	return d.key()
}

// relay is a server of any fields that may stand in rows.
func (d *drawer) relay() api.Relay {
	r := api.Relay{Server: byte(d.below(6)), Secret: d.key(), First: d.key(), Clock: uint32(d.below(1 << 31))}
	r.Cache.Need = byte(d.below(4))
	for range d.below(5) {
		r.Chain = append(r.Chain, d.object(d.below(5)))
	}
	if d.below(2) == 0 {
		r.Turning, r.Turn, r.TurnSecret = true, d.object(d.below(5)), d.key()
	}
	for n := range 4 {
		r.Cache.First[n], r.Cache.Highest[n] = d.maybe(), byte(d.below(5))
		h := api.Home{Agree: d.maybe(), Signer: d.maybe(), Seq: d.number(), Shelf: d.shelf(), Inbox: d.queue()}
		if d.below(3) > 0 {
			h.Reply, r.Acks[n] = d.text(d.below(50)), d.text(d.below(50))
		}
		r.Homes[n], r.Queues[n], r.Last[n] = h, d.queue(), d.number()
	}
	return r
}

// with is the server, changed.
func with(r api.Relay, change func(r *api.Relay)) api.Relay {
	r = stood(r)
	change(&r)
	return r
}

// P22.1

func TestNew(t *testing.T) {
	for _, a := range askers(t) {
		d := drawer(1)
		for server := range 256 {
			var homes [4]api.Home
			for n := range homes {
				homes[n] = d.relay().Homes[n]
			}
			c := api.Cache{First: [4]api.Key{d.maybe(), d.maybe(), d.maybe(), d.maybe()}, Highest: [4]byte(d.text(4)), Need: d.byte()}
			a.begin(byte(server), d.maybe(), c, homes)
		}
		a.begin(0, api.Key{}, api.Cache{}, [4]api.Home{})
		if a.count() != 0 {
			t.Errorf("New made %d terms", a.count())
		}
	}
}
