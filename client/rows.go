package client

import (
	"strconv"

	"missive/account"
	"missive/api"
	"missive/octet"
	"missive/ratchet"
)

// sheet gathers rows; it is spoilt when one of them can't be written.
type sheet struct {
	rows   []api.Change
	spoilt bool
}

// Rows are a device as rows of a store, by rising names.
func Rows(c api.Client) ([]api.Change, bool) {
	x := &sheet{}
	b, ok := account.Pack(c.Account)
	x.lay("a", b, ok)
	x.lay("c", itself(c), true)
	x.some("d", c.Doing)
	x.some("g", c.Again)
	x.need(len(c.Peers) <= api.MaxPeers)
	for i, p := range c.Peers {
		x.need(p.Device < devices && (i == 0 || c.Peers[i-1].Device < p.Device))
		x.peer(named(p.Device), p)
	}
	if x.spoilt {
		return nil, false
	}
	return x.rows, true
}

// named is the name of a peer's row: of two digits, so that names rise as the numbers do.
func named(device byte) string { return "p" + strconv.Itoa(100 + int(device))[1:] }

// placed is the name of the row of a peer's session.
func placed(peer string, place int) string { return peer + "s" + strconv.Itoa(place) }

// need spoils the sheet where something doesn't hold.
func (x *sheet) need(holds bool) { x.spoilt = x.spoilt || !holds }

// lay lays a row behind the others.
func (x *sheet) lay(name string, b []byte, ok bool) {
	x.need(ok)
	x.rows = append(x.rows, api.Change{Name: name, Value: b})
}

// some lays a row, if it says anything.
func (x *sheet) some(name string, b []byte) {
	if len(b) > 0 {
		x.lay(name, list(b), len(b) <= api.MaxValue)
	}
}

// peer lays the rows of a peer.
func (x *sheet) peer(name string, p api.Peer) {
	x.need(len(p.Sessions) <= api.MaxSessions)
	out, ok := written(p.Out, api.MaxOut)
	held, good := written(p.Held, api.MaxHold)
	x.lay(name, joined(p.Print[:], number(p.Told), flag(p.Asked), number(p.Last), out, held), ok && good)
	for place, y := range p.Sessions {
		b, ok := ratchet.Pack(y)
		x.lay(placed(name, place), b, ok)
	}
}

// written writes things said.
func written(l []api.Said, most int) ([]byte, bool) {
	var pieces [][]byte
	for _, x := range l {
		if len(x.Body) > api.MaxBody {
			return nil, false
		}
		pieces = append(pieces, append(number(x.N), x.Body...))
	}
	return joined(pieces...), len(l) <= most
}

// itself writes what the device is, but for its account, its calls and its peers.
func itself(c api.Client) []byte {
	var first []byte
	for _, k := range c.Cache.First {
		first = append(first, k[:]...)
	}
	return joined([]byte{c.Device}, number(c.Seq), flag(c.Synced), number(c.Since), number(c.Up), flag(c.Known), []byte{c.Cache.Need}, c.Cache.Highest[:], first)
}

// joined is the joined text of pieces that are known to be few and short, or of what is refused otherwise.
func joined(pieces ...[]byte) []byte {
	b, _ := octet.Join(pieces...)
	return b
}

// number writes a number in two bytes.
func number(n uint16) []byte {
	b, _ := octet.Put(uint64(n), 2)
	return b
}

func flag(set bool) []byte {
	if set {
		return []byte{1}
	}
	return []byte{0}
}
