package client_test

import (
	"bytes"
	"encoding/binary"
	"slices"

	"missive/account"
	"missive/api"
	"missive/keydir"
	"missive/ratchet"
	"missive/suite"
	"missive/wire"
)

// The chapter's words, put down a second time.

// joined is the joined text of the pieces.
func joined(pieces ...[]byte) []byte {
	b := []byte{byte(len(pieces))}
	for _, p := range pieces {
		b = append(append(b, byte(len(p)/256), byte(len(p)%256)), p...)
	}
	return b
}

// split are a joined text's pieces.
func split(b []byte) (pieces [][]byte, ok bool) {
	if len(b) == 0 || b[0] > 64 {
		return nil, false
	}
	count, b := int(b[0]), b[1:]
	for range count {
		if len(b) < 2 {
			return nil, false
		}
		n := int(b[0])*256 + int(b[1])
		if n > 4096 || len(b) < 2+n {
			return nil, false
		}
		pieces, b = append(pieces, b[2:2+n]), b[2+n:]
	}
	return pieces, len(b) == 0
}

// sized are a joined text's pieces, if they have these lengths; any has just one of -1.
func sized(b []byte, sizes ...int) ([][]byte, bool) {
	l, ok := split(b)
	if !ok || len(l) != len(sizes) {
		return nil, false
	}
	for i, n := range sizes {
		if n >= 0 && len(l[i]) != n {
			return nil, false
		}
	}
	return l, true
}

func two(n uint16) []byte { return binary.BigEndian.AppendUint16(nil, n) }

func four(n uint32) []byte { return binary.BigEndian.AppendUint32(nil, n) }

func bit(set bool) []byte {
	if set {
		return []byte{1}
	}
	return []byte{0}
}

// objectBytes are an object's bytes; objectText is what is signed of it, vouchText of a vouch for it, packetText of a packet.
func objectBytes(x api.Object) []byte {
	l := [][]byte{{x.Server}, {x.N}, x.Key[:], four(x.From), four(x.Until), x.Sig[:]}
	for _, v := range x.Vouches {
		l = append(l, append([]byte{v.Notary}, v.Sig[:]...))
	}
	return joined(l...)
}

func objectText(x api.Object) []byte {
	return joined([]byte("key"), []byte{x.Server}, []byte{x.N}, x.Key[:], four(x.From), four(x.Until))
}

func vouchText(x api.Object, notary byte) []byte {
	return joined([]byte("vouch"), []byte{notary}, objectText(x))
}

func packetText(p api.Packet) []byte {
	var chain [][]byte
	for _, x := range p.Chain {
		chain = append(chain, objectBytes(x))
	}
	return joined([]byte("pack"), []byte{p.From}, []byte{p.To}, []byte{p.Kind}, joined(chain...), p.Body)
}

// model is a device that does by a suite what the chapter says. Where a step is refused it ends by a panic with the error's number.
type model struct {
	s     suite.Suite
	c     api.Client
	d     api.Key
	n     uint16
	out   [][]byte
	heard []api.Heard
}

func must(holds bool, e api.Errno) {
	if !holds {
		panic(e)
	}
}

// fine asks that it is OK.
func fine(e api.Errno) { must(e == api.OK, e) }

// tried tells with which error the steps end.
func tried(steps func()) (e api.Errno) {
	defer func() {
		if r := recover(); r != nil {
			e = r.(api.Errno)
		}
	}()
	steps()
	return api.OK
}

// at is the place of a peer, or -1.
func (m *model) at(device byte) int {
	for i, p := range m.c.Peers {
		if p.Device == device {
			return i
		}
	}
	return -1
}

func (m *model) draw(n byte) api.Key { return api.Key(append(bytes.Clone(m.d[:31]), n)) }

func (m *model) trust(peer byte, print api.Key) {
	must(peer <= 15 && peer != m.c.Device, api.ErrArg)
	must(m.at(peer) == -1, api.ErrThere)
	must(len(m.c.Peers) <= 7, api.ErrFull)
	behind := 0
	for i, p := range m.c.Peers {
		if p.Device < peer {
			behind = i + 1
		}
	}
	m.c.Peers = slices.Concat(m.c.Peers[:behind], []api.Peer{{Device: peer, Print: print}}, m.c.Peers[behind:])
}

func (m *model) say(peer byte, body []byte) {
	at := m.at(peer)
	must(at != -1, api.ErrPeer)
	must(len(body) <= 64, api.ErrLong)
	p := &m.c.Peers[at]
	must(p.Told != 65535, api.ErrCount)
	must(len(p.Out) <= 7, api.ErrFull)
	m.n = p.Told + 1
	p.Told = m.n
	p.Out = slices.Concat(p.Out, []api.Said{{N: m.n, Body: body}})
}

func (m *model) tick() {
	if len(m.c.Doing) == 0 {
		if m.c.Seq == 65535 {
			return
		}
		x := m.choose()
		m.c.Seq++
		x.Seq = m.c.Seq
		m.c.Doing, _ = wire.PutCall(x)
		if x.Kind != 4 {
			m.c.Synced = false
		}
	}
	if len(m.c.Doing) == 0 {
		return
	}
	p := api.Packet{From: 16 + m.c.Device, To: m.c.Device / 4, Kind: 1, Body: m.c.Doing}
	if _, ok := wire.PutPacket(p); !ok {
		m.s.Sign(m.c.Account.Sign, nil)
		return
	}
	p.Sig = m.s.Sign(m.c.Account.Sign, packetText(p))
	b, _ := wire.PutPacket(p)
	m.out = append(m.out, b)
}

// choose is what there is to be called.
func (m *model) choose() api.Call {
	if !m.c.Synced {
		return api.Call{Kind: 4, Since: m.c.Since}
	}
	if len(m.c.Again) != 0 {
		x, _ := wire.GetCall(m.c.Again)
		m.c.Again = nil
		return x
	}
	above := !m.c.Known
	for _, x := range m.c.Account.Left {
		above = above || x.Id > m.c.Up
	}
	if above {
		l := account.Bundles(m.s, m.c.Account, m.c.Device)
		x := api.Call{Kind: 1, Bundles: l[:1:1]}
		for _, b := range l[1:] {
			if b.Id > m.c.Up {
				x.Bundles = append(x.Bundles, b)
			}
		}
		return x
	}
	for i := range m.c.Peers {
		p := &m.c.Peers[i]
		if len(p.Out) == 0 || len(p.Sessions) == 0 && p.Asked {
			continue
		}
		if len(p.Sessions) == 0 {
			p.Asked = true
			return api.Call{Kind: 2, Peer: p.Device}
		}
		if x, ok := m.write(p); ok {
			return x
		}
	}
	return api.Call{Kind: 4, Since: m.c.Since}
}

func (m *model) write(p *api.Peer) (api.Call, bool) {
	if len(p.Out[0].Body) > 4096 {
		return api.Call{}, false
	}
	var ids [][]byte
	for _, x := range p.Sessions {
		ids = append(ids, bytes.Clone(x.Id[:]))
	}
	least := slices.MinFunc(ids, bytes.Compare)
	at := slices.IndexFunc(ids, func(id []byte) bool { return bytes.Equal(id, least) })
	x, h, sealed, e := ratchet.Seal(m.s, p.Sessions[at], m.draw(0), joined(two(p.Out[0].N), p.Out[0].Body))
	if e != api.OK {
		return api.Call{}, false
	}
	p.Sessions[at] = x
	return api.Call{Kind: 3, Letter: api.Letter{From: m.c.Device, To: p.Device, Header: h, Body: sealed}}, true
}

func (m *model) handle(b []byte) {
	p, e := wire.GetPacket(b)
	fine(e)
	must(p.To == 16+m.c.Device && p.From == m.c.Device/4, api.ErrArg)
	must(p.Kind == 2, api.ErrKind)
	now := uint32(0)
	for _, x := range p.Chain {
		now = x.From
	}
	key, n, e := keydir.Check(m.s, m.c.Cache, m.c.Device/4, p.Chain, now)
	fine(e)
	must(m.s.Verify(key, packetText(p), p.Sig), api.ErrSign)
	y, e := wire.GetReply(p.Body)
	fine(e)
	must(len(m.c.Doing) != 0 && y.Seq == m.c.Seq, api.ErrOrder)
	x, _ := wire.GetCall(m.c.Doing)
	if x.Kind == 4 && y.Why == 0 && len(y.Items) != 0 {
		must(uint32(y.From) == uint32(m.c.Since)+1 && uint32(m.c.Since)+uint32(len(y.Items)) < 65536, api.ErrOrder)
	}
	if o := m.c.Device / 4; m.c.Cache.Highest[o] < n {
		m.c.Cache.Highest[o] = n
	}
	doing := m.c.Doing
	m.c.Doing, m.c.Synced = nil, false
	switch x.Kind {
	case 1:
		m.c.Known = true
		for _, b := range x.Bundles {
			m.c.Up = max(m.c.Up, b.Id)
		}
	case 2:
		if y.Why != 0 {
			m.isAnswered(x.Peer)
		}
	case 3:
		if y.Why != 0 {
			m.c.Again = doing
		} else if at := m.at(x.Letter.To); at >= 0 {
			m.c.Peers[at].Out = m.c.Peers[at].Out[min(1, len(m.c.Peers[at].Out)):]
		}
	case 4:
		m.c.Synced = true
		if y.Why == 0 {
			m.take(y.Items)
		}
	}
}

func (m *model) isAnswered(peer byte) {
	if at := m.at(peer); at >= 0 {
		m.c.Peers[at].Asked = false
	}
}

func (m *model) take(l []api.Item) {
	for i, x := range l {
		switch {
		case x.Kind == 1 && x.Letter.To == m.c.Device && m.at(x.Letter.From) >= 0:
			p := &m.c.Peers[m.at(x.Letter.From)]
			if text, ok := m.open(p, x.Letter.Header, x.Letter.Body); ok {
				m.comes(p, text)
			}
		case x.Kind == 3 && x.Asker == m.c.Device && m.at(x.Bundle.Device) >= 0:
			m.isAnswered(x.Bundle.Device)
			p := &m.c.Peers[m.at(x.Bundle.Device)]
			if len(p.Sessions) == 0 && account.Print(m.s, x.Bundle.Agree, x.Bundle.Signer) == p.Print {
				if y, e := account.Begin(m.s, m.c.Account, x.Bundle, m.draw(byte(16+4*i)), m.draw(byte(17+4*i))); e == api.OK {
					p.Sessions = []api.Session{y}
				}
			}
		case x.Kind == 4 && x.Asker == m.c.Device:
			m.isAnswered(x.Peer)
		}
	}
	m.c.Since += uint16(len(l))
	if len(m.c.Account.Left) <= 1 {
		if x, e := account.More(m.s, m.c.Account, []api.Key{m.draw(200), m.draw(201), m.draw(202), m.draw(203)}); e == api.OK {
			m.c.Account = x
		}
	}
}

// open is what a letter of a peer's had in it.
func (m *model) open(p *api.Peer, h api.Header, body []byte) ([]byte, bool) {
	for i, x := range p.Sessions {
		if x.Id == h.Session {
			y, text, e := ratchet.Open(m.s, x, h, body)
			if e == api.OK {
				p.Sessions[i] = y
			}
			return text, e == api.OK
		}
	}
	if !h.First || account.Print(m.s, h.Agree, h.Signer) != p.Print || len(p.Sessions) > 3 {
		return nil, false
	}
	x, y, e := account.Answer(m.s, m.c.Account, h)
	if e != api.OK {
		return nil, false
	}
	y, text, e := ratchet.Open(m.s, y, h, body)
	if e != api.OK {
		return nil, false
	}
	m.c.Account, p.Sessions = x, slices.Concat(p.Sessions, []api.Session{y})
	return text, true
}

// comes lets what was opened be heard, or held.
func (m *model) comes(p *api.Peer, text []byte) {
	l, ok := sized(text, 2, -1)
	if !ok || len(l[1]) > 64 {
		return
	}
	n := int(binary.BigEndian.Uint16(l[0]))
	if n > int(p.Last)+1 {
		for _, x := range p.Held {
			if int(x.N) == n {
				return
			}
		}
		if len(p.Held) < 8 {
			p.Held = slices.Concat(p.Held, []api.Said{{N: uint16(n), Body: l[1]}})
		}
		return
	}
	if n <= int(p.Last) {
		return
	}
	x := api.Said{N: uint16(n), Body: l[1]}
	for {
		m.heard = append(m.heard, api.Heard{From: p.Device, Said: x})
		p.Last = x.N
		at := slices.IndexFunc(p.Held, func(x api.Said) bool { return int(x.N) == int(p.Last)+1 })
		if at < 0 {
			return
		}
		x = p.Held[at]
		p.Held = slices.Concat(p.Held[:at], p.Held[at+1:])
	}
}

// rowsOf are the rows of a device, by the words.
func rowsOf(c api.Client) (l []api.Change, ok bool) {
	a, ok := account.Pack(c.Account)
	if !ok || len(c.Doing) > 4000 || len(c.Again) > 4000 || len(c.Peers) > 8 {
		return nil, false
	}
	var first []byte
	for _, k := range c.Cache.First {
		first = append(first, k[:]...)
	}
	main := joined([]byte{c.Device}, two(c.Seq), bit(c.Synced), two(c.Since), two(c.Up), bit(c.Known), []byte{c.Cache.Need}, bytes.Clone(c.Cache.Highest[:]), first)
	l = []api.Change{{Name: "a", Value: a}, {Name: "c", Value: main}}
	if len(c.Doing) > 0 {
		l = append(l, api.Change{Name: "d", Value: c.Doing})
	}
	if len(c.Again) > 0 {
		l = append(l, api.Change{Name: "g", Value: c.Again})
	}
	least := 0
	for _, p := range c.Peers {
		if p.Device > 15 || int(p.Device) < least || len(p.Sessions) > 4 || len(p.Out) > 8 || len(p.Held) > 8 {
			return nil, false
		}
		least = int(p.Device) + 1
		name := "p" + string(rune('0'+p.Device/10)) + string(rune('0'+p.Device%10))
		out, fits := saidBytes(p.Out)
		held, good := saidBytes(p.Held)
		if !fits || !good {
			return nil, false
		}
		l = append(l, api.Change{Name: name, Value: joined(p.Print[:], two(p.Told), bit(p.Asked), two(p.Last), out, held)})
		for i, x := range p.Sessions {
			b, ok := ratchet.Pack(x)
			if !ok {
				return nil, false
			}
			l = append(l, api.Change{Name: name + "s" + string(rune('0'+i)), Value: b})
		}
	}
	return l, true
}

func saidBytes(l []api.Said) ([]byte, bool) {
	var pieces [][]byte
	for _, x := range l {
		if len(x.Body) > 64 {
			return nil, false
		}
		pieces = append(pieces, append(two(x.N), x.Body...))
	}
	return joined(pieces...), true
}

// names are all that rows may have, by rising names.
func names() []string {
	l := []string{"a", "c", "d", "g"}
	for d := range 16 {
		name := "p" + string(rune('0'+d/10)) + string(rune('0'+d%10))
		l = append(l, name, name+"s0", name+"s1", name+"s2", name+"s3")
	}
	return l
}

// clientOf is the device whose rows l are, by the words.
func clientOf(l []api.Change) (c api.Client, ok bool) {
	all, names := map[string][]byte{}, names()
	at := 0
	for _, x := range l {
		for at < len(names) && names[at] != x.Name {
			at++
		}
		if at == len(names) || x.Gone || len(x.Value) == 0 || len(x.Value) > 4000 {
			return api.Client{}, false
		}
		all[x.Name] = x.Value
		at++
	}
	x, ok := account.Unpack(all["a"])
	s, good := sized(all["c"], 1, 2, 1, 2, 2, 1, 1, 4, 128)
	if !ok || !good || s[2][0] > 1 || s[5][0] > 1 {
		return api.Client{}, false
	}
	c = api.Client{Device: s[0][0], Account: x, Seq: binary.BigEndian.Uint16(s[1]), Doing: all["d"], Again: all["g"], Synced: s[2][0] == 1, Since: binary.BigEndian.Uint16(s[3]), Up: binary.BigEndian.Uint16(s[4]), Known: s[5][0] == 1}
	c.Cache.Need, c.Cache.Highest = s[6][0], [4]byte(s[7])
	for n := range 4 {
		c.Cache.First[n] = api.Key(s[8][32*n : 32*n+32])
	}
	for i := 4; i < len(names); i += 5 {
		p, there, ok := peerOf(all, names[i:i+5])
		if !ok {
			return api.Client{}, false
		}
		if there {
			p.Device = byte((i - 4) / 5)
			c.Peers = append(c.Peers, p)
		}
	}
	if len(c.Peers) > 8 {
		return api.Client{}, false
	}
	return c, true
}

// peerOf is the peer whose rows have these names, if there is one; and whether that is right.
func peerOf(all map[string][]byte, names []string) (p api.Peer, there, ok bool) {
	for i, name := range names[1:] {
		b := all[name]
		if b == nil {
			continue
		}
		x, ok := ratchet.Unpack(b)
		if !ok || len(p.Sessions) != i {
			return p, false, false
		}
		p.Sessions = append(p.Sessions, x)
	}
	b := all[names[0]]
	if b == nil {
		return p, false, len(p.Sessions) == 0
	}
	l, ok := sized(b, 32, 2, 1, 2, -1, -1)
	if !ok || l[2][0] > 1 {
		return p, true, false
	}
	p.Print, p.Told, p.Asked, p.Last = api.Key(l[0]), binary.BigEndian.Uint16(l[1]), l[2][0] == 1, binary.BigEndian.Uint16(l[3])
	out, fits := saidOf(l[4])
	held, good := saidOf(l[5])
	p.Out, p.Held = out, held
	return p, true, fits && good
}

func saidOf(b []byte) (l []api.Said, ok bool) {
	pieces, ok := split(b)
	for _, x := range pieces {
		if len(x) < 2 || len(x) > 66 {
			return nil, false
		}
		l = append(l, api.Said{N: binary.BigEndian.Uint16(x), Body: x[2:]})
	}
	return l, ok && len(l) <= 8
}
