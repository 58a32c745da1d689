package wire

import "missive/api"

// PutItem writes what servers hand on.
func PutItem(x api.Item) ([]byte, bool) {
	w := &writer{}
	w.one(x.Kind)
	named := api.Item{Kind: x.Kind} // x with no more than its kind names
	switch x.Kind {
	case api.ItemLetter:
		named.Letter = x.Letter
		w.thing(PutLetter(x.Letter))
	case api.ItemAsk, api.ItemNone:
		named.Asker, named.Peer = x.Asker, x.Peer
		w.one(x.Asker)
		w.one(x.Peer)
	case api.ItemGive:
		named.Asker, named.Bundle = x.Asker, x.Bundle
		w.one(x.Asker)
		w.thing(PutBundle(x.Bundle))
	case api.ItemVouch, api.ItemVouched:
		named.Object = x.Object
		w.thing(PutObject(x.Object))
	default:
		w.need(false)
	}
	w.need(itemShape(x) == itemShape(named))
	return w.joined()
}

// GetItem reads what PutItem writes.
func GetItem(b []byte) (api.Item, api.Errno) {
	r := read(b)
	x := api.Item{Kind: r.kind(api.ItemVouched)}
	switch x.Kind {
	case api.ItemLetter:
		x.Letter = thing(r, GetLetter)
	case api.ItemAsk, api.ItemNone:
		x.Asker = r.one()
		x.Peer = r.one()
	case api.ItemGive:
		x.Asker = r.one()
		x.Bundle = thing(r, GetBundle)
	case api.ItemVouch, api.ItemVouched:
		x.Object = thing(r, GetObject)
	}
	return answer(r, x)
}

// PutCall writes what a device asks of its server.
func PutCall(x api.Call) ([]byte, bool) {
	w := &writer{}
	w.one(x.Kind)
	w.two(x.Seq)
	named := api.Call{Kind: x.Kind, Seq: x.Seq} // x with no more than its kind names
	switch x.Kind {
	case api.CallUpload:
		named.Bundles = x.Bundles
		putList(w, x.Bundles, api.MaxOnce+1, PutBundle)
	case api.CallClaim:
		named.Peer = x.Peer
		w.one(x.Peer)
	case api.CallPost:
		named.Letter = x.Letter
		w.thing(PutLetter(x.Letter))
	case api.CallSync:
		named.Since = x.Since
		w.two(x.Since)
	default:
		w.need(false)
	}
	w.need(callShape(x) == callShape(named))
	return w.joined()
}

// GetCall reads what PutCall writes.
func GetCall(b []byte) (api.Call, api.Errno) {
	r := read(b)
	x := api.Call{Kind: r.kind(api.CallSync), Seq: r.two()}
	switch x.Kind {
	case api.CallUpload:
		x.Bundles = list(r, api.MaxOnce+1, GetBundle)
	case api.CallClaim:
		x.Peer = r.one()
	case api.CallPost:
		x.Letter = thing(r, GetLetter)
	case api.CallSync:
		x.Since = r.two()
	}
	return answer(r, x)
}

// PutReply writes what a call is answered.
func PutReply(x api.Reply) ([]byte, bool) {
	w := &writer{}
	w.two(x.Seq)
	w.one(x.Why)
	w.two(x.From)
	putList(w, x.Items, api.MaxBatch, PutItem)
	return w.joined()
}

// GetReply reads what PutReply writes.
func GetReply(b []byte) (api.Reply, api.Errno) {
	r := read(b)
	return answer(r, api.Reply{
		Seq:   r.two(),
		Why:   r.one(),
		From:  r.two(),
		Items: list(r, api.MaxBatch, GetItem),
	})
}

// PutTrans writes what a server hands over to another one.
func PutTrans(x api.Trans) ([]byte, bool) {
	w := &writer{}
	w.two(x.Id)
	putList(w, x.Items, api.MaxBatch, PutItem)
	return w.joined()
}

// GetTrans reads what PutTrans writes.
func GetTrans(b []byte) (api.Trans, api.Errno) {
	r := read(b)
	return answer(r, api.Trans{
		Id:    r.two(),
		Items: list(r, api.MaxBatch, GetItem),
	})
}
