package client

import (
	"bytes"
	"slices"

	"missive/account"
	"missive/api"
	"missive/octet"
	"missive/ratchet"
	"missive/suite"
	"missive/wire"
)

// Tick is the device behind its next call, or behind the last one once more, and what it sends.
func Tick(s suite.Suite, c api.Client, d api.Key) (api.Client, [][]byte) {
	w := begin(s, c, d)
	if len(w.c.Doing) == 0 && w.c.Seq < api.MaxCount {
		w.call(w.next())
	}
	return w.c, w.send()
}

// call makes the call that is being done.
func (w *step) call(x api.Call) {
	w.c.Seq++
	x.Seq = w.c.Seq
	w.c.Doing, _ = wire.PutCall(x)
	w.c.Synced = w.c.Synced && x.Kind == api.CallSync
}

// send tells what goes to the server: nothing, if no call is being done, or what is can't be written.
func (w *step) send() [][]byte {
	if len(w.c.Doing) == 0 {
		return nil
	}
	p := api.Packet{From: node(w.c), To: home(w.c), Kind: api.PackCall, Body: w.c.Doing}
	p.Sig = w.s.Sign(w.c.Account.Sign, wire.PacketText(p))
	b, ok := wire.PutPacket(p)
	if !ok {
		return nil
	}
	return [][]byte{b}
}

// next is the first call that there is to do.
func (w *step) next() api.Call {
	sync := api.Call{Kind: api.CallSync, Since: w.c.Since}
	switch {
	case !w.c.Synced:
		return sync
	case len(w.c.Again) > 0:
		x, _ := wire.GetCall(w.c.Again)
		w.c.Again = nil
		return x
	case !w.c.Known || slices.ContainsFunc(w.c.Account.Left, func(x api.Once) bool { return x.Id > w.c.Up }):
		return w.upload()
	}
	for i := range w.c.Peers {
		if x, ok := w.write(&w.c.Peers[i]); ok {
			return x
		}
	}
	return sync
}

// upload brings the server the fallback, and what it hasn't yet.
func (w *step) upload() api.Call {
	x := api.Call{Kind: api.CallUpload}
	for i, b := range account.Bundles(w.s, w.c.Account, w.c.Device) {
		if i == 0 || b.Id > w.c.Up {
			x.Bundles = append(x.Bundles, b)
		}
	}
	return x
}

// write does what there is to do for a peer, if anything is: a letter is posted, or a key to begin with is asked for.
func (w *step) write(p *api.Peer) (api.Call, bool) {
	switch {
	case len(p.Out) == 0:
		return api.Call{}, false
	case len(p.Sessions) > 0:
		return w.post(p)
	case p.Asked:
		return api.Call{}, false
	}
	p.Asked = true
	return api.Call{Kind: api.CallClaim, Peer: p.Device}, true
}

// post seals what waits first for the peer. It goes on waiting till the server has it.
func (w *step) post(p *api.Peer) (api.Call, bool) {
	text, ok := octet.Join(number(p.Out[0].N), p.Out[0].Body)
	if !ok {
		return api.Call{}, false
	}
	at := least(p.Sessions)
	x, h, body, e := ratchet.Seal(w.s, p.Sessions[at], w.draw(0), text)
	if e != api.OK {
		return api.Call{}, false
	}
	p.Sessions[at] = x
	return api.Call{Kind: api.CallPost, Letter: api.Letter{From: w.c.Device, To: p.Device, Header: h, Body: body}}, true
}

// least is where the session with the least number stands.
func least(l []api.Session) int {
	at := 0
	for i, x := range l {
		if bytes.Compare(x.Id[:], l[at].Id[:]) < 0 {
			at = i
		}
	}
	return at
}
