package ratchet

import (
	"bytes"

	"missive/api"
	"missive/octet"
)

// Pack writes a session.
func Pack(x api.Session) ([]byte, bool) {
	if len(x.Kept) > api.MaxSkip {
		return nil, false
	}
	l := [][]byte{
		x.Id[:], x.Root[:], x.Mine[:],
		flag(x.HasSend), x.Send.Key[:], two(x.Send.N), two(x.Prev),
		x.Theirs[:],
		flag(x.HasRecv), x.Recv.Key[:], two(x.Recv.N),
		flag(x.First), x.Agree[:], x.Signer[:], x.Base[:], two(x.Once),
	}
	for _, k := range x.Kept {
		b, _ := octet.Join(k.Ratchet[:], two(k.N), k.Key[:])
		l = append(l, b)
	}
	return octet.Join(l...)
}

// Unpack reads what Pack writes.
func Unpack(b []byte) (api.Session, bool) {
	l, _ := octet.Split(b)
	p := pieces(l)
	x := api.Session{
		Id: p.key(), Root: p.key(), Mine: p.key(),
		HasSend: p.flag(), Send: p.row(), Prev: p.two(),
		Theirs:  p.key(),
		HasRecv: p.flag(), Recv: p.row(),
		First: p.flag(), Agree: p.key(), Signer: p.key(), Base: p.key(), Once: p.two(),
	}
	for len(p) > 0 {
		x.Kept = append(x.Kept, kept(p.next()))
	}
	// Whatever was read amiss, or wasn't there at all, is written otherwise than it stood there.
	again, ok := Pack(x)
	if !ok || !bytes.Equal(again, b) {
		return api.Session{}, false
	}
	return x, true
}

// kept reads the key of a letter that hasn't come.
func kept(b []byte) api.Kept {
	l, _ := octet.Split(b)
	p := pieces(l)
	return api.Kept{Ratchet: p.key(), N: p.two(), Key: p.key()}
}

// flag is a byte 0 or 1.
func flag(set bool) []byte {
	if set {
		return []byte{1}
	}
	return []byte{0}
}

// two is a number in two bytes.
func two(n uint16) []byte {
	b, _ := octet.Put(uint64(n), 2)
	return b
}

// pieces are those of a text that haven't been taken. A piece that isn't there, or isn't what is asked for, is read as a zero.
type pieces [][]byte

// next takes the first one.
func (p *pieces) next() []byte {
	l := *p
	if len(l) == 0 {
		return nil
	}
	*p = l[1:]
	return l[0]
}

func (p *pieces) key() api.Key {
	k, _ := octet.Key(p.next())
	return k
}

func (p *pieces) two() uint16 {
	n, _ := octet.Get(p.next())
	return uint16(n)
}

func (p *pieces) flag() bool { return bytes.Equal(p.next(), flag(true)) }

func (p *pieces) row() api.Chain { return api.Chain{Key: p.key(), N: p.two()} }
