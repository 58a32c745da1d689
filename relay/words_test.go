package relay_test

import (
	"bytes"
	"encoding/binary"
	"slices"

	"missive/api"
	"missive/fedq"
	"missive/keydir"
	"missive/plane"
	"missive/suite"
	"missive/wire"
)

// The chapter's words, put down a second time.

// joined is the joined text of the pieces.
func joined(pieces ...[]byte) []byte {
	b := []byte{byte(len(pieces))}
	for _, p := range pieces {
		b = append(append(b, byte(len(p)/256), byte(len(p)%256)), p...)
	}
	return b
}

// split are a joined text's pieces.
func split(b []byte) (pieces [][]byte, ok bool) {
	if len(b) == 0 || b[0] > 64 {
		return nil, false
	}
	count, b := int(b[0]), b[1:]
	for range count {
		if len(b) < 2 {
			return nil, false
		}
		n := int(b[0])*256 + int(b[1])
		if n > 4096 || len(b) < 2+n {
			return nil, false
		}
		pieces, b = append(pieces, b[2:2+n]), b[2+n:]
	}
	return pieces, len(b) == 0
}

// sized are a joined text's pieces, if they have these lengths; any has just one of -1.
func sized(b []byte, sizes ...int) ([][]byte, bool) {
	l, ok := split(b)
	if !ok || len(l) != len(sizes) {
		return nil, false
	}
	for i, n := range sizes {
		if n >= 0 && len(l[i]) != n {
			return nil, false
		}
	}
	return l, true
}

func two(n uint16) []byte { return binary.BigEndian.AppendUint16(nil, n) }

func four(n uint32) []byte { return binary.BigEndian.AppendUint32(nil, n) }

// objectBytes are an object's bytes; objectText is what is signed of it, vouchText of a vouch for it, packetText of a packet.
func objectBytes(x api.Object) []byte {
	l := [][]byte{{x.Server}, {x.N}, x.Key[:], four(x.From), four(x.Until), x.Sig[:]}
	for _, v := range x.Vouches {
		l = append(l, append([]byte{v.Notary}, v.Sig[:]...))
	}
	return joined(l...)
}

func chainBytes(l []api.Object) []byte {
	var pieces [][]byte
	for _, x := range l {
		pieces = append(pieces, objectBytes(x))
	}
	return joined(pieces...)
}

func objectText(x api.Object) []byte {
	return joined([]byte("key"), []byte{x.Server}, []byte{x.N}, x.Key[:], four(x.From), four(x.Until))
}

func vouchText(x api.Object, notary byte) []byte {
	return joined([]byte("vouch"), []byte{notary}, objectText(x))
}

func packetText(p api.Packet) []byte {
	return joined([]byte("pack"), []byte{p.From}, []byte{p.To}, []byte{p.Kind}, chainBytes(p.Chain), p.Body)
}

// model is a server that does by a suite what the chapter says. Where a step is refused it ends by a panic with the error's number.
type model struct {
	s   suite.Suite
	r   api.Relay
	out [][]byte
}

func must(holds bool, e api.Errno) {
	if !holds {
		panic(e)
	}
}

// fine asks that it is OK.
func fine(e api.Errno) { must(e == api.OK, e) }

// tried tells with which error the steps end.
func tried(steps func()) (e api.Errno) {
	defer func() {
		if r := recover(); r != nil {
			e = r.(api.Errno)
		}
	}()
	steps()
	return api.OK
}

// isServer tells whether the server n is there, isMine whether d is one of this server's devices that are there; among tells whether d is one of the server n's four.
func (m *model) isServer(n byte) bool { return n < 4 && m.r.Cache.First[n] != api.Key{} }

func (m *model) isMine(d byte) bool {
	return among(d, m.r.Server) && m.r.Homes[d%4].Signer != api.Key{}
}

func among(d, n byte) bool { return n < 4 && d >= 4*n && d <= 4*n+3 }

// packet is what is sent.
func (m *model) packet(to, kind byte, body []byte) {
	p := api.Packet{From: m.r.Server, To: to, Kind: kind, Chain: m.r.Chain, Body: body}
	if _, ok := wire.PutPacket(p); ok {
		p.Sig = m.s.Sign(m.r.Secret, packetText(p))
	} else {
		p.Sig = m.s.Sign(m.r.Secret, nil)
	}
	if b, ok := wire.PutPacket(p); ok {
		m.out = append(m.out, b)
	}
}

func (m *model) flush() {
	for n := byte(0); n < 4; n++ {
		q, x, ok := fedq.Poll(m.r.Queues[n])
		m.r.Queues[n] = q
		if ok {
			body, _ := wire.PutTrans(x)
			m.packet(n, 3, body)
		}
	}
}

func (m *model) intoInbox(d byte, x api.Item) {
	must(m.isMine(d), api.ErrNone)
	h := &m.r.Homes[d-4*m.r.Server]
	q, e := fedq.Put(h.Inbox, x)
	fine(e)
	must(q.Id < 65534, api.ErrCount)
	h.Inbox = api.Queue{Items: q.Items, Id: q.Id + 1, Sent: q.Sent, Wait: q.Wait, Back: q.Back}
}

func (m *model) intoQueue(n byte, x api.Item) {
	q, e := fedq.Put(m.r.Queues[n], x)
	fine(e)
	m.r.Queues[n] = q
}

func (m *model) handOn(d byte, x api.Item) {
	must(d < 16, api.ErrNone)
	if d/4 == m.r.Server {
		m.intoInbox(d, x)
		return
	}
	must(m.isServer(d/4), api.ErrNone)
	m.intoQueue(d/4, x)
}

func (m *model) handle(b []byte) {
	p, e := wire.GetPacket(b)
	fine(e)
	must(p.To == m.r.Server, api.ErrArg)
	must(p.Kind != 2, api.ErrKind)
	if p.Kind == 1 {
		m.call(p)
		return
	}
	o := p.From
	must(o != m.r.Server && m.isServer(o), api.ErrPeer)
	key, n, e := keydir.Check(m.s, m.r.Cache, o, p.Chain, m.r.Clock)
	fine(e)
	must(m.s.Verify(key, packetText(p), p.Sig), api.ErrSign)
	x, e := wire.GetTrans(p.Body)
	fine(e)
	if p.Kind == 4 {
		m.ack(o, x)
	} else {
		m.trans(p, key, x)
	}
	m.r.Cache.Highest[o] = max(n, m.r.Cache.Highest[o])
	m.flush()
}

func (m *model) call(p api.Packet) {
	d := p.From - 16
	must(p.From >= 16 && m.isMine(d), api.ErrPeer)
	h := &m.r.Homes[d%4]
	must(len(p.Chain) == 0, api.ErrForm)
	must(m.s.Verify(h.Signer, packetText(p), p.Sig), api.ErrSign)
	c, e := wire.GetCall(p.Body)
	fine(e)
	if c.Seq == h.Seq && len(h.Reply) != 0 {
		m.packet(p.From, 2, h.Reply)
		return
	}
	must(uint32(c.Seq) == uint32(h.Seq)+1, api.ErrOrder)
	before, y := stood(m.r), api.Reply{Seq: c.Seq}
	e = tried(func() { m.do(d, h, c, &y) })
	if e != api.OK {
		m.r, y = before, api.Reply{Seq: c.Seq, Why: byte(e)}
	}
	h.Seq = c.Seq
	h.Reply, _ = wire.PutReply(y)
	m.packet(p.From, 2, h.Reply)
	m.flush()
}

func (m *model) do(d byte, h *api.Home, c api.Call, y *api.Reply) {
	switch c.Kind {
	case 1:
		x, e := keydir.Stock(m.s, h.Shelf, d, h.Agree, h.Signer, c.Bundles)
		fine(e)
		h.Shelf = x
	case 2:
		must(c.Peer < 16, api.ErrNone)
		if c.Peer/4 == m.r.Server {
			must(m.isMine(c.Peer), api.ErrNone)
			x := api.Item{Kind: 4, Asker: d, Peer: c.Peer}
			of := &m.r.Homes[c.Peer%4]
			if left, b, ok := keydir.Claim(of.Shelf); ok {
				of.Shelf, x = left, api.Item{Kind: 3, Asker: d, Bundle: b}
			}
			m.intoInbox(d, x)
			return
		}
		must(m.isServer(c.Peer/4), api.ErrNone)
		m.intoQueue(c.Peer/4, api.Item{Kind: 2, Asker: d, Peer: c.Peer})
	case 3:
		must(c.Letter.From == d, api.ErrArg)
		m.handOn(c.Letter.To, api.Item{Kind: 1, Letter: c.Letter})
	case 4:
		must(c.Since <= h.Inbox.Id, api.ErrArg)
		number := int(h.Inbox.Id) - len(h.Inbox.Items) + 1
		for number <= int(c.Since) && len(h.Inbox.Items) > 0 {
			number, h.Inbox.Items = number+1, h.Inbox.Items[1:]
		}
		y.From = uint16(number)
		y.Items = h.Inbox.Items[:min(4, len(h.Inbox.Items))]
	}
}

func (m *model) trans(p api.Packet, key api.Key, x api.Trans) {
	o := p.From
	if int(x.Id) == int(m.r.Last[o])+1 {
		answers := api.Trans{Id: x.Id}
		for _, y := range x.Items {
			answers.Items = append(answers.Items, m.asked(p, key, y)...)
		}
		m.r.Last[o] = x.Id
		m.r.Acks[o], _ = wire.PutTrans(answers)
	} else {
		must(x.Id != 0 && x.Id == m.r.Last[o], api.ErrOrder)
	}
	m.packet(o, 4, m.r.Acks[o])
}

// asked does an item of a transaction, and tells the answer, if there is one.
func (m *model) asked(p api.Packet, key api.Key, x api.Item) []api.Item {
	o := p.From
	switch x.Kind {
	case 1:
		if among(x.Letter.From, o) && m.isMine(x.Letter.To) {
			m.intoInbox(x.Letter.To, x)
		}
	case 2:
		if !among(x.Asker, o) || !among(x.Peer, m.r.Server) {
			return nil
		}
		if m.isMine(x.Peer) {
			h := &m.r.Homes[x.Peer%4]
			if left, b, ok := keydir.Claim(h.Shelf); ok {
				h.Shelf = left
				return []api.Item{{Kind: 3, Asker: x.Asker, Bundle: b}}
			}
		}
		return []api.Item{{Kind: 4, Asker: x.Asker, Peer: x.Peer}}
	case 5:
		y := x.Object
		if y.Server == o && int(y.N) == len(p.Chain)+1 && m.s.Verify(key, objectText(y), y.Sig) {
			y.Vouches = []api.Vouch{{Notary: m.r.Server, Sig: m.s.Sign(m.r.First, vouchText(y, m.r.Server))}}
			return []api.Item{{Kind: 6, Object: y}}
		}
	}
	return nil
}

func (m *model) ack(o byte, x api.Trans) {
	q, ok := fedq.Acked(m.r.Queues[o], x.Id)
	must(ok, api.ErrOrder)
	m.r.Queues[o] = q
	for _, y := range x.Items {
		switch {
		case y.Kind == 3 && m.isMine(y.Asker) && among(y.Bundle.Device, o), y.Kind == 4 && m.isMine(y.Asker) && among(y.Peer, o):
			m.intoInbox(y.Asker, y)
		case y.Kind == 6 && m.r.Turning:
			m.vouched(o, y.Object)
		}
	}
}

func (m *model) vouched(o byte, x api.Object) {
	if !bytes.Equal(objectText(x), objectText(m.r.Turn)) || len(x.Vouches) != 1 || x.Vouches[0].Notary != o {
		return
	}
	if !m.s.Verify(m.r.Cache.First[o], vouchText(x, o), x.Vouches[0].Sig) {
		return
	}
	for _, v := range m.r.Turn.Vouches {
		if v.Notary == o {
			return
		}
	}
	y := m.r.Turn
	y.Vouches = slices.Concat(y.Vouches, x.Vouches)
	m.r.Turn = y
	if len(y.Vouches) >= int(m.r.Cache.Need) {
		m.r.Chain = slices.Concat(m.r.Chain, []api.Object{y})
		m.r.Secret, m.r.TurnSecret, m.r.Turn, m.r.Turning = m.r.TurnSecret, api.Key{}, api.Object{}, false
	}
}

func (m *model) tick() {
	if m.r.Clock+1 != 0 {
		m.r.Clock++
	}
	for n := range m.r.Queues {
		m.r.Queues[n] = fedq.Tick(m.r.Queues[n])
	}
	m.flush()
}

func (m *model) rotate(draw api.Key) {
	var others []byte
	for n := byte(0); n < 4; n++ {
		if n != m.r.Server && m.isServer(n) {
			others = append(others, n)
		}
	}
	need := int(m.r.Cache.Need)
	must(!m.r.Turning, api.ErrBusy)
	must(len(m.r.Chain) < 4, api.ErrCount)
	must(len(others) >= need, api.ErrNone)
	fresh := m.s.Fresh(draw)
	x := api.Object{Server: m.r.Server, N: byte(len(m.r.Chain)) + 1, Key: m.s.Signer(fresh), From: m.r.Clock, Until: 0xffffffff}
	x.Sig = m.s.Sign(m.r.Secret, objectText(x))
	if need == 0 {
		m.r.Chain, m.r.Secret = slices.Concat(m.r.Chain, []api.Object{x}), fresh
		m.flush()
		return
	}
	here, _ := plane.Spot(int(m.r.Server))
	// Of those that are as far the one with the lesser number is nearer.
	slices.SortStableFunc(others, func(a, b byte) int { return far(here, a) - far(here, b) })
	for _, n := range others[:need] {
		m.intoQueue(n, api.Item{Kind: 5, Object: x})
	}
	m.r.Turning, m.r.Turn, m.r.TurnSecret = true, x, fresh
	m.flush()
}

func far(here complex128, n byte) int {
	z, _ := plane.Spot(int(n))
	d, _ := plane.Far(here, z)
	return d
}

// rowsOf are the rows of a server, by the words.
func rowsOf(r api.Relay) (l []api.Change, ok bool) {
	if len(r.Chain) > 4 || slices.ContainsFunc(r.Chain, func(x api.Object) bool { return len(x.Vouches) > 4 }) || len(r.Turn.Vouches) > 4 {
		return nil, false
	}
	if !r.Turning && (!sameObject(r.Turn, api.Object{}) || r.TurnSecret != api.Key{}) {
		return nil, false
	}
	all := map[string][]byte{"s": itself(r)}
	var first [][]byte
	for _, k := range r.Cache.First {
		first = append(first, slices.Clone(k[:]))
	}
	all["k"] = joined(first...)
	for n := range 4 {
		digit, h := string(rune('0'+n)), r.Homes[n]
		all["d"+digit] = joined(h.Agree[:], h.Signer[:], two(h.Seq))
		all["r"+digit], all["a"+digit] = h.Reply, r.Acks[n]
		shelf, ok := keydir.Pack(h.Shelf)
		queue, fits := fedq.Rows("q"+digit, r.Queues[n])
		inbox, good := fedq.Rows("i"+digit, h.Inbox)
		if !ok || !fits || !good || len(h.Reply) > 4000 || len(r.Acks[n]) > 4000 {
			return nil, false
		}
		all["b"+digit] = shelf
		for _, c := range slices.Concat(queue, inbox) {
			all[c.Name] = c.Value
		}
	}
	for _, name := range names() {
		if b := all[name]; len(b) > 0 {
			l = append(l, api.Change{Name: name, Value: b})
		}
	}
	return l, true
}

// names are all that rows may have, by rising names.
func names() (l []string) {
	for _, row := range []string{"a: ", "b: ", "d: ", "i:01h", "k", "q:01h", "r: ", "s"} {
		if len(row) == 1 {
			l = append(l, row)
			continue
		}
		for _, digit := range []string{"0", "1", "2", "3"} {
			for _, end := range row[2:] {
				if end == ' ' {
					l = append(l, row[:1]+digit)
				} else {
					l = append(l, row[:1]+digit+string(end))
				}
			}
		}
	}
	return l
}

func itself(r api.Relay) []byte {
	turning, turn := []byte{0}, []byte(nil)
	if r.Turning {
		turning, turn = []byte{1}, objectBytes(r.Turn)
	}
	var last []byte
	for _, n := range r.Last {
		last = append(last, two(n)...)
	}
	return joined([]byte{r.Server}, r.Secret[:], r.First[:], four(r.Clock), []byte{r.Cache.Need}, turning, r.TurnSecret[:], turn, r.Cache.Highest[:], last, chainBytes(r.Chain))
}

// relayOf is the server whose rows l are, by the words.
func relayOf(l []api.Change) (r api.Relay, ok bool) {
	all, names := map[string][]byte{}, names()
	at := 0
	for _, c := range l {
		for at < len(names) && names[at] != c.Name {
			at++
		}
		if at == len(names) || c.Gone || len(c.Value) == 0 || len(c.Value) > 4000 {
			return api.Relay{}, false
		}
		all[c.Name] = c.Value
		at++
	}
	s, ok := sized(all["s"], 1, 32, 32, 4, 1, 1, 32, -1, 4, 8, -1)
	k, good := sized(all["k"], 32, 32, 32, 32)
	if !ok || !good || !known(&r, s) {
		return api.Relay{}, false
	}
	for n := range 4 {
		digit := string(rune('0' + n))
		h, ok := sized(all["d"+digit], 32, 32, 2)
		shelf, good := keydir.Unpack(all["b"+digit])
		queue, fits := fedq.Load("q"+digit, l)
		inbox, right := fedq.Load("i"+digit, l)
		if !ok || !good || !fits || !right {
			return api.Relay{}, false
		}
		r.Cache.First[n] = api.Key(k[n])
		r.Homes[n] = api.Home{Agree: api.Key(h[0]), Signer: api.Key(h[1]), Seq: binary.BigEndian.Uint16(h[2]), Reply: all["r"+digit], Shelf: shelf, Inbox: inbox}
		r.Queues[n], r.Acks[n] = queue, all["a"+digit]
	}
	return r, true
}

// known reads what the server is, but for its homes, queues and acknowledgements.
func known(r *api.Relay, s [][]byte) bool {
	r.Server, r.Secret, r.First, r.Clock, r.Cache.Need = s[0][0], api.Key(s[1]), api.Key(s[2]), binary.BigEndian.Uint32(s[3]), s[4][0]
	r.Turning, r.TurnSecret = s[5][0] == 1, api.Key(s[6])
	r.Cache.Highest = [4]byte(s[8])
	for n := range 4 {
		r.Last[n] = binary.BigEndian.Uint16(s[9][2*n:])
	}
	chain, ok := split(s[10])
	if !ok || len(chain) > 4 || s[5][0] > 1 || r.Turning != (len(s[7]) > 0) || !r.Turning && r.TurnSecret != (api.Key{}) {
		return false
	}
	for i, b := range append(chain, s[7]) {
		x, e := wire.GetObject(b)
		switch {
		case i < len(chain):
			r.Chain = append(r.Chain, x)
		case !r.Turning:
			return true
		default:
			r.Turn = x
		}
		if e != api.OK {
			return false
		}
	}
	return true
}
