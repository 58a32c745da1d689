package relay

import (
	"missive/api"
	"missive/fedq"
)

// devices is how many devices there are; the node of the first one has this number, too.
const devices = api.MaxServers * api.MaxDevices

// server is that of a device; of what is none it is no server's number.
func server(device byte) int {
	if device >= devices {
		return -1
	}
	return int(device / api.MaxDevices)
}

// there tells whether the server is.
func (w *step) there(n int) bool {
	return n >= 0 && n < api.MaxServers && w.r.Cache.First[n] != api.Key{}
}

// other tells whether it is another server that is there.
func (w *step) other(n int) bool { return n != int(w.r.Server) && w.there(n) }

// home is that of one's own device, if that is there; else nil.
func (w *step) home(device byte) *api.Home {
	if server(device) != int(w.r.Server) {
		return nil
	}
	h := &w.r.Homes[device%api.MaxDevices]
	if h.Signer == (api.Key{}) {
		return nil
	}
	return h
}

// inbox puts an item into that of one's own device.
func (w *step) inbox(device byte, x api.Item) api.Errno {
	h := w.home(device)
	if h == nil {
		return api.ErrNone
	}
	q, e := fedq.Put(h.Inbox, x)
	switch {
	case e != api.OK:
		return e
	case q.Id >= api.MaxCount-1:
		return api.ErrCount
	}
	q.Id++
	h.Inbox = q
	return api.OK
}

// queue lets an item wait for another server.
func (w *step) queue(n int, x api.Item) api.Errno {
	q, e := fedq.Put(w.r.Queues[n], x)
	w.r.Queues[n] = q
	return e
}

// handOn puts an item on its way to a device.
func (w *step) handOn(device byte, x api.Item) api.Errno {
	n := server(device)
	switch {
	case n == int(w.r.Server):
		return w.inbox(device, x)
	case !w.there(n):
		return api.ErrNone
	}
	return w.queue(n, x)
}

// own is the server, in memory of its own.
func own(r api.Relay) api.Relay {
	r.Chain = objects(r.Chain)
	r.Turn = object(r.Turn)
	for place := range r.Homes {
		h := &r.Homes[place]
		h.Reply = list(h.Reply)
		h.Shelf.Left = list(h.Shelf.Left)
		h.Inbox.Items = items(h.Inbox.Items)
	}
	for n := range r.Queues {
		r.Queues[n].Items = items(r.Queues[n].Items)
		r.Acks[n] = list(r.Acks[n])
	}
	return r
}

func list[T any](l []T) []T { return append([]T(nil), l...) }

func object(x api.Object) api.Object {
	x.Vouches = list(x.Vouches)
	return x
}

func objects(l []api.Object) []api.Object {
	l = list(l)
	for i, x := range l {
		l[i] = object(x)
	}
	return l
}

func items(l []api.Item) []api.Item {
	l = list(l)
	for i := range l {
		l[i].Letter.Body = list(l[i].Letter.Body)
		l[i].Object = object(l[i].Object)
	}
	return l
}
