package world_test

import (
	"encoding/binary"
	"slices"

	"missive/api"
	"missive/wire"
	"missive/world"
)

// What a foe may cook.

// recipe is steps, each of which tells its place.
type recipe struct {
	steps []api.Step
}

func (r *recipe) add(x api.Step) int {
	r.steps = append(r.steps, x)
	return len(r.steps) - 1
}

func (r *recipe) write(l ...byte) int { return r.add(api.Step{Kind: api.FoeWrite, Bytes: l}) }
func (r *recipe) seen(n int) int      { return r.add(api.Step{Kind: api.FoeSeen, N: n}) }
func (r *recipe) piece(a, n int) int  { return r.add(api.Step{Kind: api.FoePiece, A: a, N: n}) }
func (r *recipe) join(l ...int) int   { return r.add(api.Step{Kind: api.FoeJoin, Parts: l}) }
func (r *recipe) own(n int) int       { return r.add(api.Step{Kind: api.FoeOwn, N: n}) }
func (r *recipe) fresh(n int) int     { return r.add(api.Step{Kind: api.FoeFresh, N: n}) }
func (r *recipe) sign(a, b int) int   { return r.add(api.Step{Kind: api.FoeSign, A: a, B: b}) }
func (r *recipe) number(n uint16) int {
	return r.add(api.Step{Kind: api.FoeWrite, Bytes: binary.BigEndian.AppendUint16(nil, n)})
}
func (r *recipe) entry(to byte) api.Entry { return forge(to, r.steps...) }
func (r *recipe) chain(w *world.World, s byte) int {
	if len(w.Relay(s).Chain) == 0 {
		return r.write(0)
	}
	// The chain as it is now was seen in what the server sent last, if it sent something since.
	for n, b := range slices.Backward(w.Seen()) {
		if p, e := wire.GetPacket(b); e == api.OK && p.From == s {
			return r.piece(r.seen(n), 3)
		}
	}
	return r.write(0)
}

// packet is one, signed by the secret that stands at a place.
func (r *recipe) packet(secret int, from, to, kind byte, chain, body int) {
	l := []int{r.write(from), r.write(to), r.write(kind), chain, body}
	text := r.join(append([]int{r.write([]byte("pack")...)}, l...)...)
	r.join(append(l, r.sign(secret, text))...)
}

// held is where a secret stands among those that the foe holds; below 0, if it doesn't hold it.
func held(w *world.World, k api.Key) int { return slices.Index(w.Held(), k) }

// letters are the places of the calls that were seen in which a letter to the device is posted, of each call once.
func letters(w *world.World, to int) (l []int) {
	was := map[string]int{}
	for n, b := range w.Seen() {
		p, e := wire.GetPacket(b)
		if e != api.OK || p.Kind != api.PackCall {
			continue
		}
		c, e := wire.GetCall(p.Body)
		if e != api.OK || c.Kind != api.CallPost || to >= 0 && int(c.Letter.To) != to {
			continue
		}
		if was[string(p.Body)]++; was[string(p.Body)] == 1 {
			l = append(l, n)
		}
	}
	return l
}

// letter is that which was posted in the call seen there.
func (r *recipe) letter(n int) int { return r.piece(r.piece(r.seen(n), 4), 2) }

// bent is the letter with one of its pieces, or of its header's, being another one.
func (r *recipe) bent(d *drawer, letter int, others []int) int {
	from := letter
	if len(others) > 0 {
		from = r.letter(of(d, others))
	}
	l := []int{r.piece(letter, 0), r.piece(letter, 1), r.piece(letter, 2), r.piece(letter, 3)}
	switch i := d.below(6); i {
	case 0, 1:
		l[i] = r.write(byte(d.below(16)))
	case 2, 3:
		l[i] = r.piece(from, i)
	default:
		h := l[2]
		var parts []int
		for n := range 9 {
			parts = append(parts, r.piece(h, n))
		}
		n := d.below(9)
		parts[n] = r.piece(r.piece(from, 2), n)
		l[2] = r.join(parts...)
	}
	return r.join(l...)
}

// items are letters, as they are or bent, and other things.
func (r *recipe) items(d *drawer, w *world.World, to int) (l []int) {
	for range d.below(3) {
		posted := letters(w, to)
		switch {
		case d.below(6) == 0:
			l = append(l, r.join(r.write(api.ItemAsk+byte(d.below(3))), r.write(byte(d.below(16))), r.write(byte(d.below(16)))))
		case len(posted) == 0:
		case d.below(5) == 0 && len(r.steps) < 8:
			l = append(l, r.join(r.write(api.ItemLetter), r.bent(d, r.letter(of(d, posted)), posted)))
		default:
			l = append(l, r.join(r.write(api.ItemLetter), r.letter(of(d, posted))))
		}
	}
	return l
}

// reply is one of a server to a device of its own that waits for one.
func (d *drawer) reply(w *world.World, s, device byte) api.Entry {
	r, c := &recipe{}, w.Client(device)
	secret := r.own(held(w, w.Relay(s).Secret))
	chain := r.chain(w, s)
	l := append([]int{r.number(c.Seq), r.write(0), r.number(c.Since + 1)}, r.items(d, w, int(device))...)
	r.packet(secret, s, 16+device, api.PackReply, chain, r.join(l...))
	return r.entry(16 + device)
}

// trans is a transaction, or an acknowledgement, of a server to another one.
func (d *drawer) trans(w *world.World, s, to byte) api.Entry {
	r := &recipe{}
	secret := r.own(held(w, w.Relay(s).Secret))
	chain := r.chain(w, s)
	kind, id := byte(api.PackTrans), w.Relay(to).Last[s]+1
	if d.below(3) == 0 {
		kind, id = api.PackAck, w.Relay(to).Queues[s].Id
	}
	l := append([]int{r.number(id)}, r.items(d, w, -1)...)
	r.packet(secret, s, to, kind, chain, r.join(l...))
	return r.entry(to)
}

// call is one of a device to its server.
func (d *drawer) call(w *world.World, device byte) api.Entry {
	r := &recipe{}
	secret := r.own(held(w, w.Client(device).Account.Sign))
	s := device / 4
	kind := byte(2 + d.below(3))
	l := []int{r.write(kind), r.number(w.Relay(s).Homes[device%4].Seq + 1)}
	switch posted := letters(w, -1); {
	case kind == api.CallClaim:
		l = append(l, r.write(byte(d.below(16))))
	case kind == api.CallSync:
		l = append(l, r.number(uint16(d.below(3))))
	case len(posted) > 0:
		l = append(l, r.bent(d, r.letter(of(d, posted)), nil))
	}
	r.packet(secret, 16+device, s, api.PackCall, r.write(0), r.join(l...))
	return r.entry(s)
}

// seenAgain is a packet that was seen, as it is, or with one piece of another one, or signed by the foe's own secret.
func (d *drawer) seenAgain(w *world.World, any bool) api.Entry {
	seen := w.Seen()
	r := &recipe{}
	if len(seen) == 0 {
		return r.entry(0)
	}
	n := d.below(len(seen))
	to := byte(d.below(32))
	if p, e := wire.GetPacket(seen[n]); e == api.OK && d.below(8) > 0 {
		to = p.To
	}
	a := r.seen(n)
	if any && d.below(2) == 0 {
		return r.entry(to)
	}
	b := r.seen(d.below(len(seen)))
	var l []int
	for i := range 6 {
		l = append(l, r.piece(a, i))
	}
	switch i := d.below(9); {
	case i < 6:
		l[i] = r.piece(b, i)
	case i == 6:
		l[d.below(2)] = r.write(to)
	case i == 7:
		l[d.below(5)] = r.write([]byte{}...)
	default:
		text := r.join(append([]int{r.write([]byte("pack")...)}, l[:5]...)...)
		l[5] = r.sign(r.fresh(d.below(4)), text)
	}
	r.join(l...)
	return r.entry(to)
}

// steps are any, of which most can't be done.
func (d *drawer) steps() (l []api.Step) {
	for range d.below(5) {
		x := api.Step{Kind: d.below(15), A: d.below(5) - 1, B: d.below(5) - 1, N: d.below(12) - 1, Bytes: d.text(d.below(14))}
		for range d.below(4) {
			x.Parts = append(x.Parts, d.below(4))
		}
		l = append(l, x)
	}
	return l
}

// forged is what a foe may bring: by what it holds, or by nothing but what it saw.
func (d *drawer) forged(c api.Setting, w *world.World) api.Entry {
	s, x := of(d, servers(c)), of(d, devices(c))
	switch d.below(6) {
	case 0, 1:
		if held(w, w.Relay(x/4).Secret) >= 0 {
			return d.reply(w, x/4, x)
		}
	case 2:
		if held(w, w.Relay(s).Secret) >= 0 {
			return d.trans(w, s, of(d, servers(c)))
		}
	case 3:
		if held(w, w.Client(x).Account.Sign) >= 0 {
			return d.call(w, x)
		}
	case 4:
		return forge(of(d, nodes(c)), d.steps()...)
	}
	return d.seenAgain(w, true)
}
