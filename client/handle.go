package client

import (
	"missive/api"
	"missive/keydir"
	"missive/suite"
	"missive/wire"
)

// Handle is the device behind the packet whose bytes came, and what it heard.
func Handle(s suite.Suite, c api.Client, b []byte, d api.Key) (api.Client, []api.Heard, api.Errno) {
	w := begin(s, c, d)
	if e := w.take(b); e != api.OK {
		return own(c), nil, e
	}
	return w.c, w.heard, api.OK
}

// take does what a reply asks for.
func (w *step) take(b []byte) api.Errno {
	p, e := wire.GetPacket(b)
	switch {
	case e != api.OK:
		return e
	case p.To != node(w.c) || p.From != home(w.c):
		return api.ErrArg
	case p.Kind != api.PackReply:
		return api.ErrKind
	}
	n, e := w.signed(p)
	if e != api.OK {
		return e
	}
	y, e := wire.GetReply(p.Body)
	if e != api.OK {
		return e
	}
	x, _ := wire.GetCall(w.c.Doing)
	if !w.fits(x, y) {
		return api.ErrOrder
	}
	w.c.Cache = keydir.See(w.c.Cache, p.From, n)
	w.answered(x, y)
	return api.OK
}

// signed tells the number of the server's key by which a packet is signed. Having no clock, a device takes a key from when on it holds.
func (w *step) signed(p api.Packet) (byte, api.Errno) {
	now := uint32(0)
	if count := len(p.Chain); count > 0 {
		now = p.Chain[count-1].From
	}
	key, n, e := keydir.Check(w.s, w.c.Cache, p.From, p.Chain, now)
	switch {
	case e != api.OK:
		return 0, e
	case !w.s.Verify(key, wire.PacketText(p), p.Sig):
		return 0, api.ErrSign
	}
	return n, api.OK
}

// fits tells whether the reply is to the call that is being done, and tells of the inbox what comes next there.
func (w *step) fits(x api.Call, y api.Reply) bool {
	if len(w.c.Doing) == 0 || y.Seq != w.c.Seq {
		return false
	}
	if x.Kind != api.CallSync || !well(y) || len(y.Items) == 0 {
		return true
	}
	since := int(w.c.Since)
	return int(y.From) == since+1 && since+len(y.Items) <= api.MaxCount
}

// well tells whether the call was done.
func well(y api.Reply) bool { return api.Errno(y.Why) == api.OK }

// answered takes the reply to the call that was being done.
func (w *step) answered(x api.Call, y api.Reply) {
	done := w.c.Doing
	w.c.Doing = nil
	w.c.Synced = x.Kind == api.CallSync
	switch {
	case x.Kind == api.CallUpload:
		w.c.Known = true
		for _, b := range x.Bundles {
			w.c.Up = max(w.c.Up, b.Id)
		}
	case x.Kind == api.CallClaim && !well(y):
		w.unask(x.Peer)
	case x.Kind == api.CallPost && !well(y):
		w.c.Again = done
	case x.Kind == api.CallPost:
		if p := find(w.c.Peers, x.Letter.To); p != nil && len(p.Out) > 0 {
			p.Out = p.Out[1:]
		}
	case x.Kind == api.CallSync && well(y):
		w.items(y.Items)
	}
}

// unask lets a key of the peer be asked for once more, as what was asked for is answered.
func (w *step) unask(peer byte) *api.Peer {
	p := find(w.c.Peers, peer)
	if p != nil {
		p.Asked = false
	}
	return p
}
