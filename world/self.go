package world

import (
	"bytes"

	"missive/account"
	"missive/api"
	"missive/client"
	"missive/relay"
	"missive/suite"
)

// self is what a node is: a device or a server; the other one of the two is zero.
type self struct {
	device bool
	relay  api.Relay
	client api.Client
}

// deed is what a step makes: what the node is behind it, what it sends, what was said or heard by it.
type deed struct {
	self  self
	out   [][]byte
	lines []line
}

// line is a thing that was said or heard, and the log in which it belongs.
type line struct {
	log  log
	body []byte
}

// rows are what the node is as rows of a store.
func (x self) rows() ([]api.Change, bool) {
	if x.device {
		return client.Rows(x.client)
	}
	return relay.Rows(x.relay)
}

// load is what a node of the same kind is by its rows.
func (x self) load(l []api.Change) (self, bool) {
	ok := false
	if x.device {
		x.client, ok = client.Load(l)
	} else {
		x.relay, ok = relay.Load(l)
	}
	return x, ok
}

func (x self) tick(s suite.Suite, draw api.Key) (deed, api.Errno) {
	var out [][]byte
	if x.device {
		x.client, out = client.Tick(s, x.client, draw)
	} else {
		x.relay, out = relay.Tick(s, x.relay)
	}
	return deed{self: x, out: out}, api.OK
}

func (x self) rotate(s suite.Suite, draw api.Key) (deed, api.Errno) {
	r, out, e := relay.Rotate(s, x.relay, draw)
	x.relay = r
	return deed{self: x, out: out}, e
}

func (x self) say(peer byte, text []byte) (deed, api.Errno) {
	c, _, e := client.Say(x.client, peer, text)
	said := line{log{false, c.Device, peer}, bytes.Clone(text)}
	x.client = c
	return deed{self: x, lines: []line{said}}, e
}

// trust lets a device trust another one, which is that account.
func (x self) trust(s suite.Suite, peer byte, other api.Account) (deed, api.Errno) {
	agree, signer := account.Public(s, other)
	c, e := client.Trust(x.client, peer, account.Print(s, agree, signer))
	x.client = c
	return deed{self: x}, e
}

// handle takes the bytes of a packet that came.
func (x self) handle(s suite.Suite, b []byte, draw api.Key) (deed, api.Errno) {
	if !x.device {
		r, out, e := relay.Handle(s, x.relay, b)
		x.relay = r
		return deed{self: x, out: out}, e
	}
	c, heard, e := client.Handle(s, x.client, b, draw)
	x.client = c
	var lines []line
	for _, h := range heard {
		lines = append(lines, line{log{true, c.Device, h.From}, h.Said.Body})
	}
	return deed{self: x, lines: lines}, e
}
