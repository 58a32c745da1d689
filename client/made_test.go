package client_test

import (
	"bytes"
	"testing"

	"missive/account"
	"missive/api"
	"missive/client"
	"missive/ratchet"
	"missive/suite"
	"missive/wire"
)

// What is handed in: devices, what their server answers, what others write to them.

// run is the key of the bytes from n on.
func run(n byte) (k api.Key) {
	for i := range k {
		k[i] = n + byte(i)
	}
	return k
}

// secret is that of the server's key of that number; the first one is known to all by its signer.
func secret(server, n byte) api.Key { return run(16*server + 4*n + 1) }

// owned is an account of the device d that has keys of these numbers, beside the fallback.
func owned(d byte, ids ...uint16) api.Account {
	x := api.Account{Agree: run(100 + d), Sign: run(120 + d), Fallback: api.Once{Secret: run(140 + d)}, Next: 1}
	for _, id := range ids {
		x.Left = append(x.Left, api.Once{Id: id, Secret: run(160 + d + byte(16*id))})
		x.Next = id + 1
	}
	return x
}

// bundles are the fallback of the device, and its keys of these numbers.
func (a asker) bundles(d byte, ids ...uint16) []api.Bundle {
	return both(a, func(s suite.Suite) []api.Bundle { return account.Bundles(s, owned(d, ids...), d) })
}

// print is the device's fingerprint.
func (a asker) print(d byte) api.Key {
	return both(a, func(s suite.Suite) api.Key {
		agree, signer := account.Public(s, owned(d))
		return account.Print(s, agree, signer)
	})
}

// cache knows the first keys of all servers.
func (a asker) cache(need byte) (c api.Cache) {
	c.Need = need
	for n := range byte(4) {
		c.First[n] = both(a, func(s suite.Suite) api.Key { return s.Signer(secret(n, 0)) })
	}
	return c
}

// begin asks for a new device.
func (a asker) begin(device byte, x api.Account, c api.Cache) api.Client {
	a.Helper()
	from := a.count()
	got := client.New(device, x, c)
	if d := differs(got, api.Client{Device: device, Account: x, Cache: c}); d != "" {
		a.Fatalf("New(%d, %v, %v): %s", device, x, c, d)
	}
	a.terms(from)
	return got
}

// device is one that has keys of the numbers 1 to 3, which its server has, and trusts these peers; it has just synced.
func (a asker) device(d byte, peers ...byte) api.Client {
	a.Helper()
	c := a.begin(d, owned(d, 1, 2, 3), a.cache(0))
	c.Known, c.Up, c.Synced = true, 3, true
	for _, p := range peers {
		c = a.trusts(c, p)
	}
	return c
}

func (a asker) trusts(c api.Client, peer byte) api.Client {
	a.Helper()
	c, e := a.trust(c, peer, a.print(peer))
	a.is("Trust", e, api.OK)
	return c
}

// says lets the device say these texts to the peer.
func (a asker) says(c api.Client, peer byte, texts ...string) api.Client {
	a.Helper()
	for _, text := range texts {
		var e api.Errno
		c, _, e = a.say(c, peer, []byte(text))
		a.is("Say", e, api.OK)
	}
	return c
}

// with is the device, changed.
func with(c api.Client, change func(c *api.Client)) api.Client {
	c = stood(c)
	change(&c)
	return c
}

// peer is one of a device's.
func peer(c *api.Client, device byte) *api.Peer {
	for i, p := range c.Peers {
		if p.Device == device {
			return &c.Peers[i]
		}
	}
	return nil
}

// calling is the device that is doing the call, with its number.
func (a asker) calling(c api.Client, x api.Call) api.Client {
	a.Helper()
	c = stood(c)
	c.Seq++
	x.Seq = c.Seq
	b, ok := wire.PutCall(x)
	if !ok {
		a.Fatalf("the call %v can't be written", x)
	}
	c.Doing = b
	return c
}

// syncing is the device that is doing a sync.
func (a asker) syncing(c api.Client) api.Client {
	a.Helper()
	return a.calling(c, api.Call{Kind: api.CallSync, Since: c.Since})
}

// signed are the bytes of the packet, signed by the secret.
func (a asker) signed(by api.Key, p api.Packet) []byte {
	a.Helper()
	p.Sig = both(a, func(s suite.Suite) api.Sig { return s.Sign(by, packetText(p)) })
	b, ok := wire.PutPacket(p)
	if !ok {
		a.Fatalf("the packet %v can't be written", p)
	}
	return b
}

// replyOf is the packet of a reply to the device.
func (a asker) replyOf(c api.Client, y api.Reply) api.Packet {
	a.Helper()
	b, ok := wire.PutReply(y)
	if !ok {
		a.Fatalf("the reply %v can't be written", y)
	}
	return api.Packet{From: c.Device / 4, To: 16 + c.Device, Kind: api.PackReply, Body: b}
}

// replies is what the device's server answers to what it is doing, signed by its first key.
func (a asker) replies(c api.Client, why api.Errno, l ...api.Item) []byte {
	a.Helper()
	y := api.Reply{Seq: c.Seq, Why: byte(why), Items: l}
	if len(l) > 0 {
		y.From = c.Since + 1
	}
	return a.signed(secret(c.Device/4, 0), a.replyOf(c, y))
}

// takes lets the device, which has synced, have these items.
func (a asker) takes(c api.Client, l ...api.Item) (api.Client, []api.Heard) {
	a.Helper()
	c = a.syncing(c)
	got, heard, e := a.handle(c, a.replies(c, api.OK, l...), run(60))
	a.is("a sync", e, api.OK)
	if got.Since != c.Since+uint16(len(l)) || !got.Synced || len(got.Doing) > 0 {
		a.Fatalf("behind a sync of %d items since %d: since %d", len(l), c.Since, got.Since)
	}
	return got, heard
}

// sent is the call that a device sends, signed by its own secret.
func (a asker) sent(c api.Client, out [][]byte) api.Call {
	a.Helper()
	if len(out) != 1 {
		a.Fatalf("%d packets are sent", len(out))
	}
	p, e := wire.GetPacket(out[0])
	a.is("the packet", e, api.OK)
	signer := both(a, func(s suite.Suite) api.Key { return s.Signer(c.Account.Sign) })
	if p.From != 16+c.Device || p.To != c.Device/4 || p.Kind != api.PackCall || len(p.Chain) > 0 || !bytes.Equal(p.Body, c.Doing) || !a.s.Verify(signer, packetText(p), p.Sig) {
		a.Fatalf("what is sent isn't the device's packet: %v", p)
	}
	x, e := wire.GetCall(p.Body)
	a.is("the call", e, api.OK)
	if x.Seq != c.Seq {
		a.Fatalf("the call has the number %d, want %d", x.Seq, c.Seq)
	}
	return x
}

// ticked is the device behind its next call, and that call.
func (a asker) ticked(c api.Client) (api.Client, api.Call) {
	a.Helper()
	got, out := a.tick(c, run(50))
	return got, a.sent(got, out)
}

// chain are so many keys of the server, each with vouches of these servers.
func (a asker) chain(server byte, keys int, notaries ...byte) (l []api.Object) {
	for n := range byte(keys) {
		l = append(l, a.object(server, n+1, 100*uint32(n+1), notaries...))
	}
	return l
}

// object is the server's key of that number, signed by the key ahead, which holds for a little while; with vouches of these servers.
func (a asker) object(server, n byte, from uint32, notaries ...byte) api.Object {
	x := api.Object{Server: server, N: n, From: from, Until: from + 1}
	x.Key = both(a, func(s suite.Suite) api.Key { return s.Signer(secret(server, n)) })
	x.Sig = both(a, func(s suite.Suite) api.Sig { return s.Sign(secret(server, n-1), objectText(x)) })
	for _, n := range notaries {
		sig := both(a, func(s suite.Suite) api.Sig { return s.Sign(secret(n, 0), vouchText(x, n)) })
		x.Vouches = append(x.Vouches, api.Vouch{Notary: n, Sig: sig})
	}
	return x
}

// writer is another device, with one end of a session.
type writer struct {
	device byte
	x      api.Session
}

// writer begins a session with the device c, by its key of that number.
func (a asker) writer(device byte, c api.Client, id uint16) *writer {
	a.Helper()
	w := &writer{device: device}
	for _, b := range both(a, func(s suite.Suite) []api.Bundle { return account.Bundles(s, c.Account, c.Device) }) {
		if b.Id != id {
			continue
		}
		w.x = both(a, func(s suite.Suite) api.Session {
			x, e := account.Begin(s, owned(device), b, run(200+byte(id)), run(210+byte(id)))
			a.is("Begin", e, api.OK)
			return x
		})
	}
	if !w.x.First {
		a.Fatalf("there is no key %d", id)
	}
	return w
}

// seals is the writer's next letter to the device, with any text in it.
func (a asker) seals(w *writer, to byte, text []byte) api.Item {
	a.Helper()
	var x api.Session
	l := both(a, func(s suite.Suite) api.Letter {
		y, h, body, e := ratchet.Seal(s, w.x, run(220), text)
		a.is("Seal", e, api.OK)
		x = y
		return api.Letter{From: w.device, To: to, Header: h, Body: body}
	})
	w.x = x
	return api.Item{Kind: api.ItemLetter, Letter: l}
}

// writes is the writer's next letter, in which the thing of that number is said.
func (a asker) writes(w *writer, to byte, n uint16, body string) api.Item {
	a.Helper()
	return a.seals(w, to, joined(two(n), []byte(body)))
}

// reads lets the writer open a letter, and tells what is in it.
func (a asker) reads(w *writer, x api.Letter) string {
	a.Helper()
	var y api.Session
	text := both(a, func(s suite.Suite) []byte {
		z, text, e := ratchet.Open(s, w.x, x.Header, x.Body)
		a.is("Open", e, api.OK)
		y = z
		return text
	})
	w.x = y
	return string(text)
}

func give(asker byte, b api.Bundle) api.Item {
	return api.Item{Kind: api.ItemGive, Asker: asker, Bundle: b}
}

func none(asker, peer byte) api.Item { return api.Item{Kind: api.ItemNone, Asker: asker, Peer: peer} }

// heard asks that these texts of the peer were heard, from a number on.
func (a asker) heard(l []api.Heard, from byte, n uint16, texts ...string) {
	a.Helper()
	if len(l) != len(texts) {
		a.Fatalf("heard is %v, want %q", l, texts)
	}
	for i, text := range texts {
		if !sameHeard(l[i], api.Heard{From: from, Said: api.Said{N: n + uint16(i), Body: []byte(text)}}) {
			a.Fatalf("heard is %v, want %q from %d of %d", l, texts, n, from)
		}
	}
}

// drawer makes numbers and keys that look like thrown ones, the same each time.
type drawer uint64

func (d *drawer) below(n int) int {
	*d = *d*6364136223846793005 + 1442695040888963407
	return int(uint64(*d) >> 33 % uint64(n))
}

func (d *drawer) text(n int) []byte {
	b := make([]byte, n)
	for i := range b {
		b[i] = byte(d.below(256))
	}
	return b
}

func (d *drawer) key() api.Key { return api.Key(d.text(32)) }

func (d *drawer) number() uint16 { return uint16(d.below(65536)) }

func (d *drawer) byte() byte { return byte(d.below(256)) }

func (d *drawer) yes() bool { return d.below(2) == 0 }

func (d *drawer) account(left int) api.Account {
	x := api.Account{Agree: d.key(), Sign: d.key(), Fallback: api.Once{Secret: d.key()}, Next: d.number()}
	for range left {
		x.Left = append(x.Left, api.Once{Id: d.number(), Secret: d.key()})
	}
	return x
}

func (d *drawer) session(kept int) api.Session {
	x := api.Session{Id: d.key(), Root: d.key(), Mine: d.key(), HasSend: d.yes(), HasRecv: d.yes(), Prev: d.number(), Theirs: d.key(), First: d.yes(), Agree: d.key(), Signer: d.key(), Base: d.key(), Once: d.number()}
	x.Send, x.Recv = api.Chain{Key: d.key(), N: d.number()}, api.Chain{Key: d.key(), N: d.number()}
	for range kept {
		x.Kept = append(x.Kept, api.Kept{Ratchet: d.key(), N: d.number(), Key: d.key()})
	}
	return x
}

func (d *drawer) saids(n int) (l []api.Said) {
	for range n {
		l = append(l, api.Said{N: d.number(), Body: d.text(d.below(65))})
	}
	return l
}

func (d *drawer) peer(device byte) api.Peer {
	p := api.Peer{Device: device, Print: d.key(), Told: d.number(), Asked: d.yes(), Last: d.number(), Out: d.saids(d.below(9)), Held: d.saids(d.below(9))}
	for range d.below(5) {
		p.Sessions = append(p.Sessions, d.session(d.below(17)))
	}
	return p
}

// client is a device of any fields that may stand in rows.
func (d *drawer) client() api.Client {
	c := api.Client{Device: d.byte(), Account: d.account(d.below(9)), Seq: d.number(), Synced: d.yes(), Since: d.number(), Up: d.number(), Known: d.yes()}
	c.Cache.Need, c.Cache.Highest = d.byte(), [4]byte(d.text(4))
	for n := range c.Cache.First {
		c.Cache.First[n] = d.key()
	}
	if d.yes() {
		c.Doing = d.text(1 + d.below(200))
	}
	if d.yes() {
		c.Again = d.text(1 + d.below(200))
	}
	for device := range byte(16) {
		if d.below(4) == 0 && len(c.Peers) < 8 {
			c.Peers = append(c.Peers, d.peer(device))
		}
	}
	return c
}

// first is the first error of those that hold: bit i of holds says whether the error i does.
func first(holds int, l []api.Errno) api.Errno {
	for i, e := range l {
		if holds>>i&1 == 1 {
			return e
		}
	}
	return api.OK
}

// all are all 256 numbers of a byte.
func all(do func(n byte)) {
	for n := range 256 {
		do(byte(n))
	}
}

// edges are numbers of two bytes beside which something may change.
func edges() []uint16 {
	return []uint16{0, 1, 2, 3, 7, 8, 127, 128, 255, 256, 257, 32767, 32768, 65530, 65531, 65532, 65533, 65534, 65535}
}

// The first tests of all: what is handed in may be asked at all.
func TestWhatIsMade(t *testing.T) {
	for _, a := range askers(t) {
		c := a.device(5, 6, 4)
		if len(c.Peers) != 2 || c.Peers[0].Device != 4 {
			t.Fatal(c.Peers)
		}
		a.ticked(c)
	}
}
