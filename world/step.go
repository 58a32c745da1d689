package world

import (
	"bytes"
	"slices"

	"missive/api"
	"missive/bag"
)

// step does what a node's layer makes of it, if that comes onto its disk.
func (w *World) step(n *node, do func() (deed, api.Errno)) api.Errno {
	if n.down {
		return api.ErrDead
	}
	d, e := do()
	if e != api.OK {
		return e
	}
	rows, ok := d.self.rows()
	if !ok {
		return api.ErrSpoilt
	}
	e = n.store.Commit(changes(n.store.All(), rows))
	switch e {
	case api.OK:
		n.self = d.self
		w.send(d.out)
		w.note(d.lines)
		w.learn(n)
	case api.ErrDead:
		n.down = true
		n.hangs = &hung{rows, d.lines}
	}
	return e
}

// send lays what a node sends into the bag. Who looks on sees what is lost for want of room, too.
func (w *World) send(out [][]byte) {
	for _, b := range out {
		w.bag, _ = bag.Lay(w.bag, b, w.clock)
		w.seen = append(w.seen, b)
	}
}

// note puts what was said and heard into the logs.
func (w *World) note(lines []line) {
	for _, l := range lines {
		w.logs[l.log] = append(w.logs[l.log], l.body)
	}
}

// changes make the rows want of the rows has: those that are changed or new, then those that are no more, each of them by rising names, as both lists are.
func changes(has, want []api.Change) []api.Change {
	var l []api.Change
	for _, x := range want {
		if i := find(has, x.Name); i < 0 || !bytes.Equal(has[i].Value, x.Value) {
			l = append(l, x)
		}
	}
	for _, x := range has {
		if find(want, x.Name) < 0 {
			l = append(l, api.Change{Name: x.Name, Gone: true})
		}
	}
	return l
}

// find is the place of the row of that name, below 0 if there is none.
func find(l []api.Change, name string) int {
	return slices.IndexFunc(l, func(x api.Change) bool { return x.Name == name })
}

// same tells whether two lists of rows are the same.
func same(a, b []api.Change) bool {
	return slices.EqualFunc(a, b, func(x, y api.Change) bool { return x.Name == y.Name && bytes.Equal(x.Value, y.Value) })
}
