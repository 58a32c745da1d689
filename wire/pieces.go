package wire

import (
	"missive/api"
	"missive/octet"
)

// writer gathers the pieces of a joined text.
type writer struct {
	pieces [][]byte
	spoilt bool // something can't be written
}

// need refuses the whole text, unless that holds.
func (w *writer) need(holds bool) {
	if !holds {
		w.spoilt = true
	}
}

// text puts a piece as it is.
func (w *writer) text(b []byte) { w.pieces = append(w.pieces, b) }

// thing puts the bytes of something that could be written, or couldn't.
func (w *writer) thing(b []byte, ok bool) {
	w.need(ok)
	w.text(b)
}

func (w *writer) one(n byte) { w.text([]byte{n}) }

func (w *writer) two(n uint16) { w.thing(octet.Put(uint64(n), 2)) }

func (w *writer) four(n uint32) { w.thing(octet.Put(uint64(n), 4)) }

func (w *writer) key(k api.Key) { w.text(k[:]) }

func (w *writer) sig(s api.Sig) { w.text(s[:]) }

// flag puts a byte 0 or 1.
func (w *writer) flag(set bool) {
	if set {
		w.one(1)
	} else {
		w.one(0)
	}
}

// joined is the text of all pieces, if all of it can be written.
func (w *writer) joined() ([]byte, bool) {
	if w.spoilt {
		return nil, false
	}
	return octet.Join(w.pieces...)
}

// putList puts a piece for each thing of the list, which may have at most that many.
func putList[T any](w *writer, list []T, most int, put func(T) ([]byte, bool)) {
	if len(list) > most {
		w.need(false)
		return
	}
	for _, x := range list {
		w.thing(put(x))
	}
}

// reader takes the pieces of a joined text.
type reader struct {
	pieces [][]byte // those that are left
	wrong  api.Errno
}

// read begins with the pieces of b; where b is no joined text there are none.
func read(b []byte) *reader {
	pieces, e := octet.Split(b)
	r := &reader{pieces: pieces}
	r.need(e == api.OK)
	return r
}

// need refuses the whole text, unless that holds.
func (r *reader) need(holds bool) {
	if !holds && r.wrong == api.OK {
		r.wrong = api.ErrForm
	}
}

// text takes a piece as it is.
func (r *reader) text() []byte {
	if len(r.pieces) == 0 {
		r.need(false)
		return nil
	}
	b := r.pieces[0]
	r.pieces = r.pieces[1:]
	return b
}

// number takes a number of that many bytes.
func (r *reader) number(size int) uint64 {
	b := r.text()
	r.need(len(b) == size)
	n, _ := octet.Get(b)
	return n
}

func (r *reader) one() byte { return byte(r.number(1)) }

func (r *reader) two() uint16 { return uint16(r.number(2)) }

func (r *reader) four() uint32 { return uint32(r.number(4)) }

func (r *reader) key() api.Key {
	k, ok := octet.Key(r.text())
	r.need(ok)
	return k
}

func (r *reader) sig() (s api.Sig) {
	b := r.text()
	r.need(len(b) == len(s))
	copy(s[:], b)
	return s
}

// flag takes a byte 0 or 1.
func (r *reader) flag() bool {
	n := r.one()
	r.need(n <= 1)
	return n == 1
}

// kind takes a number from 1 to last. One that is none of these outweighs whatever else is wrong with the text.
func (r *reader) kind(last byte) byte {
	there := len(r.pieces) > 0 && len(r.pieces[0]) == 1
	k := r.one()
	if there && (k == 0 || k > last) {
		r.wrong = api.ErrKind
	}
	return k
}

// thing takes a piece that is something's bytes.
func thing[T any](r *reader, get func([]byte) (T, api.Errno)) T {
	x, e := get(r.text())
	r.need(e == api.OK)
	return x
}

// list takes all pieces that are left, each a thing's bytes; there may be at most that many.
func list[T any](r *reader, most int, get func([]byte) (T, api.Errno)) []T {
	r.need(len(r.pieces) <= most)
	var all []T
	for len(r.pieces) > 0 {
		all = append(all, thing(r, get))
	}
	return all
}

// answer is x, if nothing is wrong and no piece is left.
func answer[T any](r *reader, x T) (T, api.Errno) {
	r.need(len(r.pieces) == 0)
	if r.wrong != api.OK {
		var none T
		return none, r.wrong
	}
	return x, api.OK
}
