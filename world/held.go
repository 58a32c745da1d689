package world

import (
	"slices"

	"missive/api"
)

// yield makes a node the foe's.
func (w *World) yield(n *node) {
	n.foes = true
	w.learn(n)
}

// learn lets the foe hold what secrets a node has now, if it is the foe's.
func (w *World) learn(n *node) {
	if !n.foes {
		return
	}
	for _, k := range n.self.secrets() {
		if k != (api.Key{}) && !slices.Contains(w.held, k) {
			w.held = append(w.held, k)
		}
	}
}

// secrets are those that a node has; a key that it hasn't is zero.
func (x self) secrets() []api.Key {
	if !x.device {
		return []api.Key{x.relay.First, x.relay.Secret, x.relay.TurnSecret}
	}
	a := x.client.Account
	l := []api.Key{a.Agree, a.Sign, a.Fallback.Secret}
	for _, o := range a.Left {
		l = append(l, o.Secret)
	}
	for _, p := range x.client.Peers {
		for _, y := range p.Sessions {
			l = append(l, y.Root, y.Mine, y.Send.Key, y.Recv.Key)
			for _, k := range y.Kept {
				l = append(l, k.Key)
			}
		}
	}
	return l
}
