package client

import (
	"slices"

	"missive/account"
	"missive/api"
	"missive/octet"
	"missive/ratchet"
)

// items takes what came into the inbox, in order.
func (w *step) items(l []api.Item) {
	for i, x := range l {
		w.item(i, x)
	}
	w.c.Since += uint16(len(l))
	if len(w.c.Account.Left) < 2 {
		w.c.Account, _ = account.More(w.s, w.c.Account, []api.Key{w.draw(200), w.draw(201), w.draw(202), w.draw(203)})
	}
}

// item takes one, if it is to this device and of one that it trusts; i is its place in the reply.
func (w *step) item(i int, x api.Item) {
	mine := w.c.Device
	switch {
	case x.Kind == api.ItemLetter && x.Letter.To == mine:
		if p := find(w.c.Peers, x.Letter.From); p != nil {
			w.letter(p, x.Letter)
		}
	case x.Kind == api.ItemGive && x.Asker == mine:
		if p := w.unask(x.Bundle.Device); p != nil {
			w.start(p, x.Bundle, i)
		}
	case x.Kind == api.ItemNone && x.Asker == mine:
		w.unask(x.Peer)
	}
}

// start begins a session by a peer's key, unless there is one.
func (w *step) start(p *api.Peer, b api.Bundle, i int) {
	if len(p.Sessions) > 0 || account.Print(w.s, b.Agree, b.Signer) != p.Print {
		return
	}
	x, e := account.Begin(w.s, w.c.Account, b, w.draw(16+4*i), w.draw(17+4*i))
	if e == api.OK {
		p.Sessions = append(p.Sessions, x)
	}
}

// letter takes a peer's letter.
func (w *step) letter(p *api.Peer, x api.Letter) {
	if said, ok := read(w.open(p, x)); ok {
		w.comes(p, said)
	}
}

// open opens a letter by the session that it names, or by the one that it begins: none, if it can't be opened.
func (w *step) open(p *api.Peer, x api.Letter) (text []byte) {
	h := x.Header
	at := slices.IndexFunc(p.Sessions, func(y api.Session) bool { return y.Id == h.Session })
	if at >= 0 {
		p.Sessions[at], text, _ = ratchet.Open(w.s, p.Sessions[at], h, x.Body)
		return text
	}
	if !h.First || account.Print(w.s, h.Agree, h.Signer) != p.Print || len(p.Sessions) >= api.MaxSessions {
		return nil
	}
	mine, y, e := account.Answer(w.s, w.c.Account, h)
	if e != api.OK {
		return nil
	}
	y, text, e = ratchet.Open(w.s, y, h, x.Body)
	if e == api.OK {
		w.c.Account = mine
		p.Sessions = append(p.Sessions, y)
	}
	return text
}

// read reads what a letter has in it.
func read(text []byte) (api.Said, bool) {
	l, _ := octet.Split(text)
	if len(l) != 2 || len(l[0]) != 2 || len(l[1]) > api.MaxBody {
		return api.Said{}, false
	}
	return api.Said{N: two(l[0]), Body: l[1]}, true
}

// comes lets what the peer said be heard, when all ahead of it was.
func (w *step) comes(p *api.Peer, x api.Said) {
	next := func(y api.Said) bool { return int(y.N) == int(p.Last)+1 } // reckoned so, as behind the greatest number there is none
	same := func(y api.Said) bool { return y.N == x.N }
	switch {
	case next(x):
		w.hear(p, x)
	case x.N > p.Last && !slices.ContainsFunc(p.Held, same) && len(p.Held) < api.MaxHold:
		p.Held = append(p.Held, x)
		return
	default:
		return
	}
	for at := slices.IndexFunc(p.Held, next); at >= 0; at = slices.IndexFunc(p.Held, next) {
		held := p.Held[at]
		p.Held = slices.Delete(p.Held, at, at+1)
		w.hear(p, held)
	}
}

func (w *step) hear(p *api.Peer, x api.Said) {
	p.Last = x.N
	w.heard = append(w.heard, api.Heard{From: p.Device, Said: x})
}
