package relay

import (
	"missive/api"
	"missive/keydir"
	"missive/wire"
)

// call does what a device asks for, and sends the reply; a call that comes again has the same one.
func (w *step) call(p api.Packet) api.Errno {
	device := p.From - devices // below the devices' nodes it comes to a number that is no device's
	h := w.home(device)
	switch {
	case h == nil:
		return api.ErrPeer
	case len(p.Chain) > 0:
		return api.ErrForm
	case !w.s.Verify(h.Signer, wire.PacketText(p), p.Sig):
		return api.ErrSign
	}
	c, e := wire.GetCall(p.Body)
	switch {
	case e != api.OK:
		return e
	case c.Seq == h.Seq && len(h.Reply) > 0:
		w.send(p.From, api.PackReply, h.Reply)
		return api.OK
	case int(c.Seq) != int(h.Seq)+1: // reckoned so, as behind the greatest number there is none
		return api.ErrOrder
	}
	h.Reply = w.reply(device, h, c)
	h.Seq = c.Seq
	w.send(p.From, api.PackReply, h.Reply)
	w.flush()
	return api.OK
}

// reply does a call, whole or not at all, and tells the bytes of what it is answered. To have been copied as a value is enough for the server to be as it was: no list of it is written over.
func (w *step) reply(device byte, h *api.Home, c api.Call) []byte {
	was := w.r
	y := api.Reply{Seq: c.Seq}
	e := api.OK
	switch c.Kind {
	case api.CallUpload:
		h.Shelf, e = keydir.Stock(w.s, h.Shelf, device, h.Agree, h.Signer, c.Bundles)
	case api.CallClaim:
		e = w.claim(device, c.Peer)
	case api.CallPost:
		e = w.post(device, c.Letter)
	case api.CallSync:
		y.From, y.Items, e = sync(h, c.Since)
	}
	if e != api.OK {
		w.r = was
	}
	y.Why = byte(e)
	b, _ := wire.PutReply(y)
	return b
}

// claim asks for a key of the peer: at home it is in the caller's inbox at once.
func (w *step) claim(caller, peer byte) api.Errno {
	n := server(peer)
	switch {
	case w.home(peer) != nil:
		return w.inbox(caller, w.give(caller, peer))
	case !w.other(n):
		return api.ErrNone
	}
	return w.queue(n, api.Item{Kind: api.ItemAsk, Asker: caller, Peer: peer})
}

// give claims a key of one's own device for the asker.
func (w *step) give(asker, peer byte) api.Item {
	if h := w.home(peer); h != nil {
		shelf, b, ok := keydir.Claim(h.Shelf)
		h.Shelf = shelf
		if ok {
			return api.Item{Kind: api.ItemGive, Asker: asker, Bundle: b}
		}
	}
	return api.Item{Kind: api.ItemNone, Asker: asker, Peer: peer}
}

// post hands on a letter of the caller's own.
func (w *step) post(caller byte, x api.Letter) api.Errno {
	if x.From != caller {
		return api.ErrArg
	}
	return w.handOn(x.To, api.Item{Kind: api.ItemLetter, Letter: x})
}

// sync lets go of what the device had, and tells the first ones that are left, with the number of the first of them.
func sync(h *api.Home, since uint16) (uint16, []api.Item, api.Errno) {
	q := &h.Inbox
	if since > q.Id {
		return 0, nil, api.ErrArg
	}
	left := min(int(q.Id-since), len(q.Items))
	q.Items = list(q.Items[len(q.Items)-left:])
	return uint16(int(q.Id) - left + 1), q.Items[:min(left, api.MaxBatch)], api.OK
}
