package store

import (
	"bytes"
	"slices"

	"missive/api"
	"missive/octet"
)

const (
	word     = "head" // with which a header begins
	headSize = 24     // bytes of a header, ahead of its zeros
	lead     = 8      // bytes of a record ahead of its payload
)

// header says which records of a half count: those of an epoch, of which the last one ends at the block end.
type header struct{ epoch, count, end uint64 }

// block is the header as it is written.
func (h header) block() []byte {
	b := slices.Concat([]byte(word), put(h.epoch, 8), put(h.count, 4), put(h.end, 4))
	return fill(append(b, put(sum(b), 4)...))
}

// headerOf reads the first block of a half that has so many; ErrNone says that there is no header.
func headerOf(b []byte, blocks uint64) (header, api.Errno) {
	if bytes.Equal(b, make([]byte, api.Block)) {
		return header{}, api.ErrNone
	}
	h := header{get(b[4:12]), get(b[12:16]), get(b[16:20])}
	// What stands behind a header is not asked: it has zeros there, but is right without them.
	if !bytes.HasPrefix(b, h.block()[:headSize]) || h.end < 1 || h.end > blocks {
		return header{}, api.ErrSpoilt
	}
	return h, api.OK
}

// record is the record k of an epoch as it is written.
func record(epoch, k uint64, payload []byte) []byte {
	return fill(append(front(epoch, k, payload), payload...))
}

// front is what stands in a record ahead of its payload.
func front(epoch, k uint64, payload []byte) []byte {
	size := put(uint64(len(payload)), 4)
	s := sum(slices.Concat(put(epoch, 8), put(k, 4), size, payload))
	return append(size, put(s, 4)...)
}

// payload writes changes of which none is wrong, and which are not too many.
func payload(l []api.Change) []byte {
	pieces := make([][]byte, len(l))
	for i, c := range l {
		parts := [][]byte{[]byte(c.Name), c.Value}
		if c.Gone {
			parts = parts[:1]
		}
		pieces[i], _ = octet.Join(parts...)
	}
	b, _ := octet.Join(pieces...)
	return b
}

// changes reads what payload writes.
func changes(b []byte) ([]api.Change, bool) {
	pieces, e := octet.Split(b)
	l := make([]api.Change, len(pieces))
	for i, p := range pieces {
		parts, e := octet.Split(p)
		if e != api.OK || len(parts) < 1 || len(parts) > 2 {
			return nil, false
		}
		l[i] = api.Change{Name: string(parts[0]), Gone: len(parts) == 1}
		if !l[i].Gone {
			l[i].Value = parts[1]
		}
		if wrong(l[i]) != api.OK {
			return nil, false
		}
	}
	return l, e == api.OK
}

// wrong tells why a change may not be.
func wrong(c api.Change) api.Errno {
	switch {
	case c.Name == "", len(c.Name) > api.MaxName, c.Gone && len(c.Value) > 0:
		return api.ErrArg
	case len(c.Value) > api.MaxValue:
		return api.ErrLong
	}
	return api.OK
}

// sum is the number S of the chapter.
func sum(b []byte) uint64 {
	s := uint64(0)
	for i, x := range b {
		s = (s + uint64(i+1)*uint64(x)) % (1<<31 - 1)
	}
	return s
}

// fill puts zeros behind, up to a block's end.
func fill(b []byte) []byte {
	return append(b, make([]byte, blocks(uint64(len(b)))*api.Block-uint64(len(b)))...)
}

// blocks is how many of them so many bytes need.
func blocks(size uint64) uint64 { return (size + api.Block - 1) / api.Block }

// put writes a number that has room.
func put(n uint64, size int) []byte {
	b, _ := octet.Put(n, size)
	return b
}

// get reads what put writes.
func get(b []byte) uint64 {
	n, _ := octet.Get(b)
	return n
}
