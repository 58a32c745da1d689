package wire

import "missive/api"

// Structs with lists can't be held against each other. A shape can: it has a thing's fields, but of a list only how much is in it, which is enough to tell a list from none.

type letter struct {
	from, to byte
	header   api.Header
	body     int
}

type object struct {
	server, n   byte
	key         api.Key
	from, until uint32
	sig         api.Sig
	vouches     int
}

type item struct {
	kind, asker, peer byte
	letter            letter
	bundle            api.Bundle
	object            object
}

type call struct {
	kind    byte
	seq     uint16
	peer    byte
	since   uint16
	bundles int
	letter  letter
}

func letterShape(x api.Letter) letter {
	return letter{x.From, x.To, x.Header, len(x.Body)}
}

func objectShape(x api.Object) object {
	return object{x.Server, x.N, x.Key, x.From, x.Until, x.Sig, len(x.Vouches)}
}

func itemShape(x api.Item) item {
	return item{x.Kind, x.Asker, x.Peer, letterShape(x.Letter), x.Bundle, objectShape(x.Object)}
}

func callShape(x api.Call) call {
	return call{x.Kind, x.Seq, x.Peer, x.Since, len(x.Bundles), letterShape(x.Letter)}
}
