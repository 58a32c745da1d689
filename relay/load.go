package relay

import (
	"bytes"
	"slices"

	"missive/api"
	"missive/fedq"
	"missive/keydir"
	"missive/octet"
	"missive/wire"
)

// Load reads what Rows writes.
func Load(l []api.Change) (api.Relay, bool) {
	r := read(l)
	// Whatever was read amiss is written otherwise than it stood there.
	again, ok := Rows(r)
	if !ok || !slices.EqualFunc(again, l, same) {
		return api.Relay{}, false
	}
	return r, true
}

// same tells whether two rows are alike.
func same(r, s api.Change) bool {
	return r.Name == s.Name && r.Gone == s.Gone && bytes.Equal(r.Value, s.Value)
}

// read reads a server's rows: what is none of what should stand there as zeros.
func read(l []api.Change) api.Relay {
	value := func(name string) []byte {
		at := slices.IndexFunc(l, func(r api.Change) bool { return r.Name == name })
		if at < 0 {
			return nil
		}
		return list(l[at].Value)
	}
	r := itself(pieces(value("s"), 11))
	for n, p := range pieces(value("k"), api.MaxServers) {
		r.Cache.First[n] = key(p)
	}
	for n := range r.Queues {
		r.Queues[n], _ = fedq.Load(named("q", n), l)
		r.Acks[n] = value(named("a", n))
	}
	for place := range r.Homes {
		h := home(pieces(value(named("d", place)), 3))
		h.Reply = value(named("r", place))
		h.Shelf, _ = keydir.Unpack(value(named("b", place)))
		h.Inbox, _ = fedq.Load(named("i", place), l)
		r.Homes[place] = h
	}
	return r
}

// itself reads what the server is, but for its homes, queues and acknowledgements.
func itself(l [][]byte) (r api.Relay) {
	clock, _ := octet.Get(l[3])
	r.Server, r.Secret, r.First, r.Clock = one(l[0]), key(l[1]), key(l[2]), uint32(clock)
	r.Cache.Need, r.Turning, r.TurnSecret = one(l[4]), one(l[5]) == 1, key(l[6])
	r.Turn, _ = wire.GetObject(l[7])
	copy(r.Cache.Highest[:], l[8])
	for n := range r.Last {
		r.Last[n] = two(l[9][min(2*n, len(l[9])):])
	}
	chain, _ := octet.Split(l[10])
	for _, p := range chain {
		x, _ := wire.GetObject(p)
		r.Chain = append(r.Chain, x)
	}
	return r
}

// home reads by what a device is known, and its last call's number.
func home(l [][]byte) api.Home {
	return api.Home{Agree: key(l[0]), Signer: key(l[1]), Seq: two(l[2])}
}

// pieces are those of a joined text, if they are so many; else so many empty ones.
func pieces(b []byte, count int) [][]byte {
	l, _ := octet.Split(b)
	if len(l) != count {
		return make([][]byte, count)
	}
	return l
}

func key(b []byte) api.Key {
	k, _ := octet.Key(b)
	return k
}

// one and two read the number of one byte, and of the first two.
func one(b []byte) byte {
	n, _ := octet.Get(b)
	return byte(n)
}

func two(b []byte) uint16 {
	n, _ := octet.Get(b[:min(2, len(b))])
	return uint16(n)
}
