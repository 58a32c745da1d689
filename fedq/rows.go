package fedq

import (
	"bytes"
	"slices"
	"strconv"

	"missive/api"
	"missive/octet"
	"missive/wire"
)

// Rows are a queue as rows of a store: what is known of it, and its items, a row for each batch.
func Rows(name string, q api.Queue) ([]api.Change, bool) {
	items, ok := texts(q.Items)
	if !ok || len(name) >= api.MaxName || q.Sent < 0 || q.Sent > min(len(items), api.MaxBatch) {
		return nil, false
	}
	l := []api.Change{{Name: name + "h", Value: head(q)}}
	for batch := range slices.Chunk(items, api.MaxBatch) {
		n := strconv.Itoa(len(l) - 1)
		b, _ := octet.Join(batch...)
		l = append(l, api.Change{Name: name + n, Value: b})
	}
	return l, true
}

// texts are the items' bytes, if a queue may have these items.
func texts(items []api.Item) ([][]byte, bool) {
	if len(items) > api.MaxQueue {
		return nil, false
	}
	var l [][]byte
	for _, x := range items {
		b, ok := wire.PutItem(x)
		if !ok || len(b) > api.MaxItem {
			return nil, false
		}
		l = append(l, b)
	}
	return l, true
}

// head writes what is known of a queue, but for its items.
func head(q api.Queue) []byte {
	id, _ := octet.Put(uint64(q.Id), 2)
	b, _ := octet.Join(id, []byte{byte(q.Sent)}, []byte{q.Wait}, []byte{q.Back}, []byte{byte(len(q.Items))})
	return b
}

// Load reads what Rows writes, wherever it stands among other rows.
func Load(name string, l []api.Change) (api.Queue, bool) {
	var rows []api.Change
	for _, end := range []string{"h", "0", "1"} {
		wanted := name + end
		at := slices.IndexFunc(l, func(r api.Change) bool { return r.Name == wanted })
		if at >= 0 {
			rows = append(rows, l[at])
		}
	}
	q := read(rows)
	// Whatever was read amiss is written otherwise than it stood there.
	again, ok := Rows(name, q)
	if !ok || !slices.EqualFunc(again, rows, same) {
		return api.Queue{}, false
	}
	return q, true
}

// same tells whether two rows are alike.
func same(r, s api.Change) bool {
	return r.Name == s.Name && r.Gone == s.Gone && bytes.Equal(r.Value, s.Value)
}

// read reads a queue's rows: what is none of what should stand there as zeros.
func read(rows []api.Change) (q api.Queue) {
	for i, r := range rows {
		l, _ := octet.Split(r.Value)
		if i == 0 {
			q = known(l)
			continue
		}
		for _, p := range l {
			x, _ := wire.GetItem(p)
			q.Items = append(q.Items, x)
		}
	}
	return q
}

// known reads what is known of a queue; how many items it has, the rows behind tell.
func known(l [][]byte) api.Queue {
	if len(l) < 4 {
		return api.Queue{}
	}
	id, _ := octet.Get(l[0])
	sent, _ := octet.Get(l[1])
	wait, _ := octet.Get(l[2])
	back, _ := octet.Get(l[3])
	return api.Queue{Id: uint16(id), Sent: int(sent), Wait: byte(wait), Back: byte(back)}
}
