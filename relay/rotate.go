package relay

import (
	"math"

	"missive/api"
	"missive/keydir"
	"missive/plane"
	"missive/suite"
)

// Rotate is the server that takes a new key, or asks others to vouch for it, and what it sends.
func Rotate(s suite.Suite, r api.Relay, draw api.Key) (api.Relay, [][]byte, api.Errno) {
	w := begin(s, r)
	return w.end(r, w.rotate(draw))
}

func (w *step) rotate(draw api.Key) api.Errno {
	need := int(w.r.Cache.Need)
	others := w.others()
	switch {
	case w.r.Turning:
		return api.ErrBusy
	case len(w.r.Chain) >= api.MaxKeys:
		return api.ErrCount
	case len(others) < need:
		return api.ErrNone
	}
	secret := w.s.Fresh(draw)
	x := w.next(secret)
	if need == 0 {
		w.turn(x, secret)
	} else if e := w.ask(x, w.nearest(others, need)); e != api.OK {
		return e
	} else {
		w.r.Turning, w.r.Turn, w.r.TurnSecret = true, x, secret
	}
	w.flush()
	return api.OK
}

// next is the key behind the last one, by its secret, signed by the secret of now.
func (w *step) next(secret api.Key) api.Object {
	x := api.Object{Server: w.r.Server, N: byte(len(w.r.Chain) + 1), Key: w.s.Signer(secret), From: w.r.Clock, Until: math.MaxUint32}
	return keydir.Sign(w.s, w.r.Secret, x)
}

// ask lets these servers be asked to vouch for the key.
func (w *step) ask(x api.Object, servers []int) api.Errno {
	for _, n := range servers {
		if e := w.queue(n, api.Item{Kind: api.ItemVouch, Object: x}); e != api.OK {
			return e
		}
	}
	return api.OK
}

// others are the other servers that are there, by rising numbers.
func (w *step) others() []int {
	var l []int
	for n := range api.MaxServers {
		if w.other(n) {
			l = append(l, n)
		}
	}
	return l
}

// nearest are so many of these servers, those that stand nearest to this one.
func (w *step) nearest(servers []int, count int) []int {
	var spots []complex128
	for _, n := range servers {
		z, _ := plane.Spot(n)
		spots = append(spots, z)
	}
	here, _ := plane.Spot(int(w.r.Server))
	var l []int
	for _, place := range plane.Near(here, spots, count) {
		l = append(l, servers[place])
	}
	return l
}
