package client

import (
	"bytes"
	"slices"

	"missive/account"
	"missive/api"
	"missive/octet"
	"missive/ratchet"
)

// Load reads what Rows writes.
func Load(l []api.Change) (api.Client, bool) {
	c := loaded(l)
	// Whatever was read amiss is written otherwise than it stood there.
	again, ok := Rows(c)
	if !ok || !slices.EqualFunc(again, l, same) {
		return api.Client{}, false
	}
	return c, true
}

// same tells whether two rows are alike.
func same(r, s api.Change) bool {
	return r.Name == s.Name && r.Gone == s.Gone && bytes.Equal(r.Value, s.Value)
}

// loaded reads a device's rows: what is none of what should stand there as zeros.
func loaded(l []api.Change) api.Client {
	value := func(name string) ([]byte, bool) {
		at := slices.IndexFunc(l, func(r api.Change) bool { return r.Name == name })
		if at < 0 {
			return nil, false
		}
		return list(l[at].Value), true
	}
	b, _ := value("c")
	c := known(pieces(b, 9))
	b, _ = value("a")
	c.Account, _ = account.Unpack(b)
	c.Doing, _ = value("d")
	c.Again, _ = value("g")
	for device := range byte(devices) {
		name := named(device)
		if b, ok := value(name); ok {
			p := peer(pieces(b, 6))
			p.Device = device
			p.Sessions = sessions(name, value)
			c.Peers = append(c.Peers, p)
		}
	}
	return c
}

// known reads what the device is, but for its account, its calls and its peers.
func known(l [][]byte) (c api.Client) {
	c.Device, c.Seq, c.Synced, c.Since = one(l[0]), two(l[1]), one(l[2]) == 1, two(l[3])
	c.Up, c.Known, c.Cache.Need = two(l[4]), one(l[5]) == 1, one(l[6])
	copy(c.Cache.Highest[:], l[7])
	for n := range c.Cache.First {
		l[8] = l[8][copy(c.Cache.First[n][:], l[8]):]
	}
	return c
}

// peer reads what is known of one, but for their sessions.
func peer(l [][]byte) api.Peer {
	print, _ := octet.Key(l[0])
	return api.Peer{Print: print, Told: two(l[1]), Asked: one(l[2]) == 1, Last: two(l[3]), Out: things(l[4]), Held: things(l[5])}
}

// things reads things said.
func things(b []byte) (l []api.Said) {
	said, _ := octet.Split(b)
	for _, x := range said {
		at := min(2, len(x))
		l = append(l, api.Said{N: two(x[:at]), Body: x[at:]})
	}
	return l
}

// sessions reads those with a peer.
func sessions(peer string, value func(string) ([]byte, bool)) (l []api.Session) {
	for place := range api.MaxSessions {
		b, ok := value(placed(peer, place))
		if !ok {
			break
		}
		x, _ := ratchet.Unpack(b)
		l = append(l, x)
	}
	return l
}

// pieces are those of a joined text, if they are so many; else so many empty ones.
func pieces(b []byte, count int) [][]byte {
	l, _ := octet.Split(b)
	if len(l) != count {
		return make([][]byte, count)
	}
	return l
}

// one and two read the number of one byte, of two.
func one(b []byte) byte {
	n, _ := octet.Get(b)
	return byte(n)
}

func two(b []byte) uint16 {
	n, _ := octet.Get(b)
	return uint16(n)
}
