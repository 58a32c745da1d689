package relay

import (
	"bytes"
	"cmp"
	"slices"
	"strconv"

	"missive/api"
	"missive/fedq"
	"missive/keydir"
	"missive/octet"
	"missive/wire"
)

// sheet gathers rows; it is spoilt when one of them can't be written.
type sheet struct {
	rows   []api.Change
	spoilt bool
}

// Rows are a server as rows of a store, by rising names.
func Rows(r api.Relay) ([]api.Change, bool) {
	x := &sheet{}
	x.itself(r)
	x.lay("k", joined(r.Cache.First[0][:], r.Cache.First[1][:], r.Cache.First[2][:], r.Cache.First[3][:]), true)
	for n, q := range r.Queues {
		x.queue(named("q", n), q)
		x.some(named("a", n), r.Acks[n])
	}
	for place, h := range r.Homes {
		x.home(strconv.Itoa(place), h)
	}
	if x.spoilt {
		return nil, false
	}
	slices.SortFunc(x.rows, func(a, b api.Change) int { return cmp.Compare(a.Name, b.Name) })
	return x.rows, true
}

// named is a name, with a number behind it.
func named(name string, n int) string { return name + strconv.Itoa(n) }

// lay lays a row behind the others.
func (x *sheet) lay(name string, b []byte, ok bool) {
	x.rows = append(x.rows, api.Change{Name: name, Value: b})
	x.spoilt = x.spoilt || !ok
}

// some lays a row, if it says anything.
func (x *sheet) some(name string, b []byte) {
	if len(b) > 0 {
		x.lay(name, list(b), len(b) <= api.MaxValue)
	}
}

// queue lays a queue's rows.
func (x *sheet) queue(name string, q api.Queue) {
	l, ok := fedq.Rows(name, q)
	x.rows = append(x.rows, l...)
	x.spoilt = x.spoilt || !ok
}

// home lays the rows of a device's home, by its place.
func (x *sheet) home(place string, h api.Home) {
	x.lay("d"+place, joined(h.Agree[:], h.Signer[:], number(uint64(h.Seq), 2)), true)
	x.some("r"+place, h.Reply)
	b, ok := keydir.Pack(h.Shelf)
	x.lay("b"+place, b, ok)
	x.queue("i"+place, h.Inbox)
}

// itself lays the row of what the server is, but for its homes, queues and acknowledgements.
func (x *sheet) itself(r api.Relay) {
	turn, ok := turning(r)
	chain, good := chained(r.Chain)
	var last []byte
	for _, n := range r.Last {
		last = append(last, number(uint64(n), 2)...)
	}
	clock := number(uint64(r.Clock), 4)
	b := joined([]byte{r.Server}, r.Secret[:], r.First[:], clock, []byte{r.Cache.Need}, flag(r.Turning), r.TurnSecret[:], turn, r.Cache.Highest[:], last, chain)
	x.lay("s", b, ok && good)
}

// turning writes the key that is turning: none if none is, and then there may be nothing of it.
func turning(r api.Relay) ([]byte, bool) {
	b, ok := wire.PutObject(r.Turn)
	if r.Turning {
		return b, ok
	}
	none, _ := wire.PutObject(api.Object{})
	return nil, bytes.Equal(b, none) && r.TurnSecret == api.Key{}
}

// chained writes the keys behind the first one.
func chained(l []api.Object) ([]byte, bool) {
	if len(l) > api.MaxKeys {
		return nil, false
	}
	var pieces [][]byte
	for _, x := range l {
		b, ok := wire.PutObject(x)
		if !ok {
			return nil, false
		}
		pieces = append(pieces, b)
	}
	return octet.Join(pieces...)
}

// joined is the joined text of pieces that are known to be few and short.
func joined(pieces ...[]byte) []byte {
	b, _ := octet.Join(pieces...)
	return b
}

// number writes a number that has room.
func number(n uint64, size int) []byte {
	b, _ := octet.Put(n, size)
	return b
}

func flag(set bool) []byte {
	if set {
		return []byte{1}
	}
	return []byte{0}
}
