package wire_test

import (
	"fmt"
	"testing"

	"missive/api"
	"missive/wire"
)

// bundleText, objectText, vouchText and packetText are the texts that are signed, put down a second time.

func bundleText(x api.Bundle) string {
	return join("once", number(x.Device, 1), string(x.Agree[:]), string(x.Signer[:]), number(x.Id, 2), string(x.Once[:]))
}

func objectText(x api.Object) string {
	return join("key", number(x.Server, 1), number(x.N, 1), string(x.Key[:]), number(x.From, 4), number(x.Until, 4))
}

func vouchText(x api.Object, notary byte) string {
	return join("vouch", number(notary, 1), objectText(x))
}

func packetText(x api.Packet) string {
	return join("pack", number(x.From, 1), number(x.To, 1), number(x.Kind, 1), join(each(object, x.Chain)...), string(x.Body))
}

// reads asks that b is that text.
func reads(t *testing.T, what string, b []byte, want string) {
	t.Helper()
	if string(b) != want {
		t.Errorf("%s: %x, want %x", what, b, want)
	}
}

// P14.3

func TestTextsByHand(t *testing.T) {
	once := "\x06" + "\x00\x04once" + "\x00\x01\x01" + "\x00\x20" + many(2, 32) + "\x00\x20" + many(3, 32) + "\x00\x02\x04\x05" + "\x00\x20" + many(6, 32)
	key := "\x06" + "\x00\x03key" + "\x00\x01\x01" + "\x00\x01\x02" + "\x00\x20" + many(3, 32) + "\x00\x04\x04\x05\x06\x07" + "\x00\x04\xff\xff\xff\xfe"
	reads(t, "BundleText", wire.BundleText(aBundle), once)
	reads(t, "ObjectText", wire.ObjectText(anObject), key)
	reads(t, "VouchText", wire.VouchText(anObject, 9), "\x03"+"\x00\x05vouch"+"\x00\x01\x09"+"\x00\x3a"+key)
	reads(t, "PacketText", wire.PacketText(api.Packet{From: 17, To: 3, Kind: 1, Body: []byte("body"), Sig: sigs(1)}), "\x06\x00\x04pack\x00\x01\x11\x00\x01\x03\x00\x01\x01\x00\x01\x00\x00\x04body")
	chain := []api.Object{{}, anObject}
	reads(t, "PacketText with a chain", wire.PacketText(api.Packet{From: 1, To: 2, Kind: 3, Chain: chain}), "\x06\x00\x04pack\x00\x01\x01\x00\x01\x02\x00\x01\x03\x01\x79\x02\x00\x77"+bareBytes+"\x00\xfd"+objectBytes+"\x00\x00")
}

func TestTextsOfDrawnThings(t *testing.T) {
	d := drawer(8)
	for range 300 {
		x, y, z := d.bundle(), d.object(), d.packet()
		reads(t, "BundleText", wire.BundleText(x), bundleText(x))
		reads(t, "ObjectText", wire.ObjectText(y), objectText(y))
		n := d.byte()
		reads(t, "VouchText", wire.VouchText(y, n), vouchText(y, n))
		reads(t, "PacketText", wire.PacketText(z), packetText(z))
	}
}

func TestTextsOfEachField(t *testing.T) {
	eachLeaf(api.Bundle{}, func(path string, x api.Bundle) {
		reads(t, "BundleText with "+path, wire.BundleText(x), bundleText(x))
		if same := bundleText(x) == bundleText(api.Bundle{}); same != (path == ".Sig") {
			t.Error("BundleText with", path, "is another:", !same)
		}
	})
	eachLeaf(api.Object{}, func(path string, x api.Object) {
		reads(t, "ObjectText with "+path, wire.ObjectText(x), objectText(x))
		reads(t, "VouchText with "+path, wire.VouchText(x, 3), vouchText(x, 3))
		if same := objectText(x) == objectText(api.Object{}); same != begins(path, []string{".Sig", ".Vouches"}) {
			t.Error("ObjectText with", path, "is another:", !same)
		}
	})
	eachLeaf(api.Packet{}, func(path string, x api.Packet) {
		reads(t, "PacketText with "+path, wire.PacketText(x), packetText(x))
		if same := packetText(x) == packetText(api.Packet{}); same != (path == ".Sig") {
			t.Error("PacketText with", path, "is another:", !same)
		}
	})
}

func TestTextsOfEachNumber(t *testing.T) {
	for n := range 256 {
		k := byte(n)
		reads(t, "VouchText", wire.VouchText(anObject, k), vouchText(anObject, k))
		// Whether there is such a kind isn't asked: its Chain and Body can be written.
		x := api.Packet{From: k, To: k + 1, Kind: k, Body: []byte("b")}
		reads(t, fmt.Sprint("PacketText of the kind ", n), wire.PacketText(x), packetText(x))
	}
}

func TestTextsHangOnNoSignatures(t *testing.T) {
	for _, n := range []int{0, 4, 5, 59, 300} {
		x := anObject
		x.Vouches = make([]api.Vouch, n)
		reads(t, fmt.Sprint("ObjectText with vouches: ", n), wire.ObjectText(x), objectText(anObject))
		reads(t, fmt.Sprint("VouchText with vouches: ", n), wire.VouchText(x, 1), vouchText(anObject, 1))
	}
	x := aBundle
	x.Sig = sigs(200)
	reads(t, "BundleText", wire.BundleText(x), bundleText(aBundle))
}

func TestPacketTextOfWhatCannotBeWritten(t *testing.T) {
	for _, n := range []int{0, 1, 2, 3, 4, 5, 6, 64, 65, 256, 260} {
		x := api.Packet{Kind: 1, Chain: make([]api.Object, n)}
		if n <= 4 {
			reads(t, fmt.Sprint("a chain of ", n), wire.PacketText(x), packetText(x))
		} else {
			reads(t, fmt.Sprint("a chain of ", n), wire.PacketText(x), "")
		}
	}
	for size := 1; size <= 4; size++ {
		for at := range size {
			x := api.Packet{Kind: 1, Chain: make([]api.Object, size), Body: []byte("body")}
			x.Chain[at].Vouches = make([]api.Vouch, 5)
			reads(t, "five vouches", wire.PacketText(x), "")
			x.Chain[at].Vouches = x.Chain[at].Vouches[:4]
			reads(t, "four vouches", wire.PacketText(x), packetText(x))
		}
	}
	for _, n := range []int{0, 1, 4095, 4096, 4097, 8192, 65535, 65536, 65540, 1 << 20} {
		x := api.Packet{Kind: 1, Body: []byte(many(7, n))}
		if n <= 4096 {
			reads(t, fmt.Sprint("a body of ", n), wire.PacketText(x), packetText(x))
		} else {
			reads(t, fmt.Sprint("a body of ", n), wire.PacketText(x), "")
		}
	}
}
