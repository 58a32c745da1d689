package relay

import (
	"bytes"
	"slices"

	"missive/api"
	"missive/fedq"
	"missive/keydir"
	"missive/wire"
)

// exchange does what another server hands over, or what it acknowledges.
func (w *step) exchange(p api.Packet) api.Errno {
	if !w.other(int(p.From)) {
		return api.ErrPeer
	}
	key, n, e := keydir.Check(w.s, w.r.Cache, p.From, p.Chain, w.r.Clock)
	if e != api.OK {
		return e
	}
	if !w.s.Verify(key, wire.PacketText(p), p.Sig) {
		return api.ErrSign
	}
	t, e := wire.GetTrans(p.Body)
	if e != api.OK {
		return e
	}
	if p.Kind == api.PackTrans {
		e = w.handed(t, sender{p.From, key, int(n)})
	} else {
		e = w.acked(t, p.From)
	}
	if e != api.OK {
		return e
	}
	w.r.Cache = keydir.See(w.r.Cache, p.From, n)
	w.flush()
	return api.OK
}

// sender is another server that sent something: its key of now, and that key's number.
type sender struct {
	server byte
	key    api.Key
	n      int
}

// handed does a transaction, if it is a new one, and sends what the last one is acknowledged with.
func (w *step) handed(t api.Trans, o sender) api.Errno {
	last, do, _ := fedq.Take(w.r.Last[o.server], t.Id)
	switch {
	case do:
		answers, e := w.doAll(t.Items, o)
		if e != api.OK {
			return e
		}
		w.r.Last[o.server] = last
		w.r.Acks[o.server], _ = wire.PutTrans(api.Trans{Id: t.Id, Items: answers})
	case t.Id == 0 || t.Id != last:
		return api.ErrOrder
	}
	w.send(o.server, api.PackAck, w.r.Acks[o.server])
	return api.OK
}

// doAll does the items of a transaction, and tells what they are answered with.
func (w *step) doAll(l []api.Item, o sender) ([]api.Item, api.Errno) {
	var answers []api.Item
	for _, x := range l {
		switch {
		case x.Kind == api.ItemLetter && server(x.Letter.From) == int(o.server) && w.home(x.Letter.To) != nil:
			if e := w.inbox(x.Letter.To, x); e != api.OK {
				return nil, e
			}
		case x.Kind == api.ItemAsk && server(x.Asker) == int(o.server) && server(x.Peer) == int(w.r.Server):
			answers = append(answers, w.give(x.Asker, x.Peer))
		case x.Kind == api.ItemVouch && w.follows(x.Object, o):
			answers = append(answers, w.vouch(x.Object))
		}
	}
	return answers, api.OK
}

// follows tells whether the object is the other server's next key.
func (w *step) follows(x api.Object, o sender) bool {
	return x.Server == o.server && int(x.N) == o.n+1 && w.s.Verify(o.key, wire.ObjectText(x), x.Sig)
}

// vouch vouches for another server's key: others' vouches don't matter to it.
func (w *step) vouch(x api.Object) api.Item {
	x.Vouches = nil
	return api.Item{Kind: api.ItemVouched, Object: keydir.Vouch(w.s, w.r.First, x, w.r.Server)}
}

// acked takes what a transaction was acknowledged with.
func (w *step) acked(t api.Trans, o byte) api.Errno {
	q, ok := fedq.Acked(w.r.Queues[o], t.Id)
	if !ok {
		return api.ErrOrder
	}
	w.r.Queues[o] = q
	for _, x := range t.Items {
		switch {
		case w.answers(x, o):
			if e := w.inbox(x.Asker, x); e != api.OK {
				return e
			}
		case x.Kind == api.ItemVouched:
			w.vouched(x.Object, o)
		}
	}
	return api.OK
}

// answers tells whether the item is what one's own device, which is there, may be answered by the other server.
func (w *step) answers(x api.Item, o byte) bool {
	of := x.Peer
	if x.Kind == api.ItemGive {
		of = x.Bundle.Device
	}
	return (x.Kind == api.ItemGive || x.Kind == api.ItemNone) && w.home(x.Asker) != nil && server(of) == int(o)
}

// vouched puts another server's vouch behind those of the key that is turning; with enough of them it is the key from now on.
func (w *step) vouched(x api.Object, o byte) {
	t := &w.r.Turn
	if !w.r.Turning || !bytes.Equal(wire.ObjectText(x), wire.ObjectText(*t)) || len(x.Vouches) != 1 {
		return
	}
	v := x.Vouches[0]
	by := func(v api.Vouch) bool { return v.Notary == o }
	if !by(v) || slices.ContainsFunc(t.Vouches, by) || !w.s.Verify(w.r.Cache.First[o], wire.VouchText(x, o), v.Sig) {
		return
	}
	t.Vouches = append(t.Vouches, v)
	if len(t.Vouches) >= int(w.r.Cache.Need) {
		w.turn(*t, w.r.TurnSecret)
		w.r.Turning, w.r.Turn, w.r.TurnSecret = false, api.Object{}, api.Key{}
	}
}

// turn makes the key that of now.
func (w *step) turn(x api.Object, secret api.Key) {
	w.r.Chain = append(w.r.Chain, x)
	w.r.Secret = secret
}
