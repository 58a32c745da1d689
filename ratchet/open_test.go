package ratchet_test

import (
	"slices"
	"testing"

	"missive/api"
	"missive/suite"
)

// P18.3

// letter is a header and a body.
type letter struct {
	api.Header
	body []byte
}

// letters are so many of them, sealed one behind the other; each one's text is its number.
func (a asker) letters(x *api.Session, draw api.Key, n int) (l []letter) {
	a.Helper()
	for i := range n {
		h, body := a.wrote(x, draw, string(rune('a'+i)))
		l = append(l, letter{h, body})
	}
	return l
}

func TestOpenInOrder(t *testing.T) {
	for _, a := range askers(t) {
		x, y := a.pair()
		for i, l := range a.letters(&x, api.Key{}, 20) {
			was := copied(y)
			a.reads(&y, l.Header, l.body, string(rune('a'+i)))
			was.Recv = api.Chain{Key: y.Recv.Key, N: uint16(i + 1)}
			if !same(y, was) {
				t.Fatalf("behind the letter %d: %v, want %v", i, y, was)
			}
		}
		if y.Recv != x.Send {
			t.Fatalf("the two rows are at %v and %v", x.Send, y.Recv)
		}
	}
}

func TestOpenOfAnotherSession(t *testing.T) {
	for _, a := range askers(t) {
		x, y := a.pair()
		l := a.letters(&x, api.Key{}, 1)[0]
		was := a.count()
		for bit := range 256 {
			h := l.Header
			h.Session = turnedKey(h.Session, bit)
			a.refuses("another session's letter", y, h, l.body, api.ErrArg)
			// Ahead of what else is wrong.
			h.First = false
			a.refuses("another session's letter that can't be written", y, h, nil, api.ErrArg)
		}
		a.refuses("a letter for no session", api.Session{}, l.Header, l.body, api.ErrArg)
		if a.count() != was {
			t.Error("what is refused so makes terms")
		}
	}
}

func TestOpenOfWhatIsNoHeader(t *testing.T) {
	for _, a := range askers(t) {
		x, y := a.pair()
		l := a.letters(&x, api.Key{}, 1)[0]
		bare := api.Header{Session: l.Session, Ratchet: l.Ratchet}
		was := a.count()
		for _, set := range []func(h *api.Header){
			func(h *api.Header) { h.Agree[31] = 1 },
			func(h *api.Header) { h.Signer[0] = 1 },
			func(h *api.Header) { h.Base[9] = 1 },
			func(h *api.Header) { h.Id = 256 },
			func(h *api.Header) { *h = l.Header; h.First = false },
		} {
			h := bare
			set(&h)
			a.refuses("what is no header", y, h, l.body, api.ErrForm)
			// Ahead of whatever the key is: kept, old, too far, of a row that isn't there.
			y.Kept = kept(h.Ratchet, 0, 1)
			a.refuses("what is no header, of a kept key", y, h, l.body, api.ErrForm)
			y.Kept = nil
			h.N = 1000
			a.refuses("what is no header, too far", y, h, l.body, api.ErrForm)
			h.Ratchet[3]++
			a.refuses("what is no header, of no row", y, h, l.body, api.ErrForm)
		}
		if a.count() != was {
			t.Error("what is refused so makes terms")
		}
		h := bare
		h.First = true
		a.refuses("a first letter that says zeros", y, h, l.body, api.ErrOpen)
	}
}

// 1. One that is kept: whatever the session is else.
func TestOpenOfKept(t *testing.T) {
	for _, a := range askers(t) {
		for _, n := range []int{1, 2, 15, 16, 17, 40} {
			for _, at := range []int{0, n / 2, n - 1} {
				x := api.Session{Id: api.Key{1}, Theirs: api.Key{7}, Kept: kept(api.Key{7}, 65000, n)}
				h := api.Header{Session: api.Key{1}, Ratchet: api.Key{7}, N: 65000 + uint16(at), Prev: 9}
				for _, flags := range [][2]bool{{}, {true, false}, {false, true}, {true, true}} {
					x.HasSend, x.HasRecv, x.First, x.Agree = flags[0], flags[1], flags[0], api.Key{8}
					x.Recv.N = h.N
					body := a.body(x, h, "kept")
					now, plain, e := a.open(x, h, body)
					a.is("Open of a kept key", e, api.OK)
					want := copied(x)
					want.Kept = slices.Delete(want.Kept, at, at+1)
					if string(plain) != "kept" || !same(now, want) {
						t.Fatalf("Open of a kept key: %q %v", plain, now)
					}
					a.refuses("a kept key's, of another text", x, h, turned(body, 3), api.ErrOpen)
				}
			}
		}
	}
}

// The first key of that ratchet key and number counts; it is kept no more, the other is.
func TestOpenOfKeptTwice(t *testing.T) {
	for _, a := range askers(t) {
		k := api.Kept{Ratchet: api.Key{7}, N: 3, Key: api.Key{1}}
		other := api.Kept{Ratchet: api.Key{7}, N: 3, Key: api.Key{2}}
		x := api.Session{Kept: []api.Kept{{N: 3}, {Ratchet: api.Key{7}, N: 4}, k, other}}
		h := api.Header{Ratchet: api.Key{7}, N: 3}
		body := a.body(x, h, "one")
		a.reads(&x, h, body, "one")
		a.refuses("the first one's once more", x, h, body, api.ErrOpen)
		a.reads(&x, h, a.body(x, h, "two"), "two")
		if len(x.Kept) != 2 {
			t.Fatalf("%v is kept", x.Kept)
		}
		a.refuses("a third one's", x, h, body, api.ErrKey)
	}
}

// 2. The row that comes goes on, and keeps the keys on the way.
func TestOpenSkips(t *testing.T) {
	for _, a := range askers(t) {
		x, y := a.pair()
		l := a.letters(&x, api.Key{}, 20)
		for n := range 18 {
			for there := range 19 {
				z := copied(y)
				z.Kept = kept(api.Key{5}, 0, there)
				if n+there > 16 {
					a.refuses("Open too far", z, l[n].Header, l[n].body, api.ErrFar)
					continue
				}
				a.reads(&z, l[n].Header, l[n].body, string(rune('a'+n)))
				if len(z.Kept) != n+there || z.Recv.N != uint16(n+1) {
					t.Fatalf("Open of the letter %d beside %d keys: %v", n, there, z)
				}
				for i, k := range z.Kept[there:] {
					if k.N != uint16(i) || k.Ratchet != y.Theirs {
						t.Fatalf("Open of the letter %d keeps %v", n, z.Kept)
					}
				}
				// And each of these is opened then, and only once.
				for i, m := range l[:n] {
					a.reads(&z, m.Header, m.body, string(rune('a'+i)))
					a.refuses("a kept key's once more", z, m.Header, m.body, api.ErrOld)
				}
			}
		}
	}
}

func TestOpenOfTheOld(t *testing.T) {
	for _, a := range askers(t) {
		_, y := a.pair()
		for _, n := range numbers {
			for _, m := range numbers {
				y.Recv.N = n
				h := api.Header{Session: y.Id, Ratchet: y.Theirs, N: m}
				switch body := a.body(y, h, "text"); {
				case m < n:
					a.refuses("Open of what is gone", y, h, nil, api.ErrOld)
				case m-n > 16:
					a.refuses("Open too far", y, h, nil, api.ErrFar)
				case m == 65535:
					a.refuses("Open behind the last one", y, h, nil, api.ErrCount)
				default:
					a.refuses("Open of nothing", y, h, nil, api.ErrOpen)
					z := copied(y)
					a.reads(&z, h, body, "text")
				}
			}
		}
	}
}

// What Skip meets on the way: a key that is there already, of a session of any fields.
func TestOpenOverWhatIsKept(t *testing.T) {
	for _, a := range askers(t) {
		x, y := a.pair()
		l := a.letters(&x, api.Key{}, 6)
		y.Kept = []api.Kept{{Ratchet: y.Theirs, N: 3, Key: api.Key{1}}}
		a.refuses("Open over what is kept", y, l[4].Header, l[4].body, api.ErrThere)
		a.refuses("Open of what is kept by another key", y, l[3].Header, l[3].body, api.ErrOpen)
		z := copied(y)
		a.reads(&z, l[2].Header, l[2].body, "c")
		a.refuses("Open over what is kept", z, l[4].Header, l[4].body, api.ErrThere)
	}
}

// 3. The other end answers.
func TestOpenOfAnAnswer(t *testing.T) {
	for _, a := range askers(t) {
		x, y := a.pair()
		a.letters(&x, api.Key{}, 3)
		l := a.letters(&y, run(170), 4)
		from := a.count()
		was := copied(x)
		a.reads(&x, l[0].Header, l[0].body, "a")
		a.made(from, "")
		want := copied(was)
		want.HasSend, want.First, want.Agree, want.Signer, want.Base, want.Once = false, false, api.Key{}, api.Key{}, api.Key{}, 0
		want.Root, want.Theirs, want.HasRecv, want.Recv = y.Root, l[0].Ratchet, true, api.Chain{Key: x.Recv.Key, N: 1}
		if !same(x, want) || x.Root == was.Root {
			t.Fatalf("behind an answer: %v, want %v", x, want)
		}
		// The row goes on without another turn; then it is answered, and tells how many the row ahead of it had.
		a.reads(&x, l[1].Header, l[1].body, "b")
		root := x.Root
		h, body := a.wrote(&x, run(190), "back")
		if h.Prev != 3 || h.N != 0 || h.First || h.Ratchet == l[0].Ratchet || x.Root == root {
			t.Fatalf("the answer's header: %v", h)
		}
		a.reads(&y, h, body, "back")
		if len(y.Kept) != 3 || y.Recv.N != 1 || y.HasSend || y.Send.N != 4 {
			t.Fatalf("behind the answer: %v", y)
		}
		a.reads(&x, l[3].Header, l[3].body, "d")
		a.reads(&x, l[2].Header, l[2].body, "c")
		h, body = a.wrote(&y, run(210), "again")
		if h.Prev != 4 || h.N != 0 {
			t.Fatalf("the next answer's header: %v", h)
		}
		a.reads(&x, h, body, "again")
	}
}

// An answer's first letter may be lost, or late.
func TestOpenOfAnAnswerLate(t *testing.T) {
	for _, a := range askers(t) {
		x, y := a.pair()
		l := a.letters(&y, run(170), 18)
		a.refuses("an answer's letter too far", x, l[17].Header, l[17].body, api.ErrFar)
		a.reads(&x, l[16].Header, l[16].body, string(rune('a'+16)))
		if len(x.Kept) != 16 {
			t.Fatalf("%d keys are kept", len(x.Kept))
		}
		for i := range 16 {
			a.reads(&x, l[i].Header, l[i].body, string(rune('a'+i)))
		}
		a.reads(&x, l[17].Header, l[17].body, string(rune('a'+17)))
	}
}

// The keys of the row ahead are kept as far as the answer says that it went.
func TestOpenKeepsTheRowAhead(t *testing.T) {
	for _, a := range askers(t) {
		for prev := range uint16(20) {
			for come := range uint16(6) {
				for n := range uint16(4) {
					_, y := a.pair()
					y.HasSend, y.Mine, y.Recv.N = true, api.Key{4}, come
					y.Kept = kept(api.Key{5}, 0, 2)
					h := api.Header{Session: y.Id, Ratchet: a.public(api.Key{6}), N: n, Prev: prev}
					ahead := max(int(prev)-int(come), 0)
					if ahead+2 > 16 && prev > come || ahead+2+int(n) > 16 {
						a.refuses("Open too far", y, h, nil, api.ErrFar)
						continue
					}
					was := copied(y)
					a.reads(&y, h, a.body(y, h, "text"), "text")
					if len(y.Kept) != 2+ahead+int(n) || y.Recv.N != n+1 || y.Theirs != h.Ratchet || !slices.Equal(y.Kept[:2], was.Kept) {
						t.Fatalf("Prev %d at %d: %v", prev, come, y)
					}
					for i, k := range y.Kept[2:] {
						want := api.Kept{Ratchet: was.Theirs, N: come + uint16(i), Key: k.Key}
						if i >= ahead {
							want.Ratchet, want.N = h.Ratchet, uint16(i-ahead)
						}
						if k != want {
							t.Fatalf("Prev %d at %d keeps %v", prev, come, y.Kept)
						}
					}
				}
			}
		}
	}
}

// Without a row that comes there is none ahead, whatever the letter says; and where it has come as far nothing is asked.
func TestOpenWithoutARowAhead(t *testing.T) {
	for _, a := range askers(t) {
		x, _ := a.pair()
		for _, prev := range numbers {
			h := api.Header{Session: x.Id, Ratchet: a.public(api.Key{6}), Prev: prev}
			z := copied(x)
			a.reads(&z, h, a.body(x, h, "text"), "text")
			if len(z.Kept) != 0 {
				t.Fatalf("Prev %d of no row: %v", prev, z)
			}
			// A row that isn't set is none, though it has a key and the letter's ratchet key.
			z = copied(x)
			z.Recv, z.Theirs = api.Chain{Key: api.Key{1}, N: 3}, h.Ratchet
			a.reads(&z, h, a.body(z, h, "text"), "text")
			if len(z.Kept) != 0 || z.Recv.N != 1 {
				t.Fatalf("Prev %d of a row that isn't set: %v", prev, z)
			}
		}
		// Too many are kept already, and nothing is to be skipped: the row ahead isn't asked, the new one is.
		_, y := a.pair()
		y.HasSend, y.Mine, y.Kept = true, api.Key{4}, kept(api.Key{5}, 0, 17)
		a.refuses("Open beside too many", y, api.Header{Session: y.Id, Ratchet: a.public(api.Key{6})}, nil, api.ErrFar)
	}
}

func TestOpenWithoutARowToSend(t *testing.T) {
	for _, a := range askers(t) {
		_, y := a.pair()
		was := a.count()
		for _, h := range []api.Header{
			{Session: y.Id, Ratchet: api.Key{1}},
			{Session: y.Id},
			{Session: y.Id, Ratchet: turnedKey(y.Theirs, 255)},
			{Session: y.Id, Ratchet: api.Key{1}, N: 65535, Prev: 65535},
			{Session: y.Id, Ratchet: api.Key{1}, Prev: 5},
		} {
			a.refuses("an answer to nothing", y, h, nil, api.ErrKey)
			// Nor is there a session with neither row.
			a.refuses("a letter for no session", api.Session{Id: y.Id}, h, nil, api.ErrKey)
		}
		if a.count() != was {
			t.Error("what is refused so makes terms")
		}
	}
}

func TestOpenWithoutAgreement(t *testing.T) {
	a := reckoner(t)
	x, y := a.pair()
	y.HasSend = true
	for _, low := range []api.Key{{}, {1}} {
		h := api.Header{Session: x.Id, Ratchet: low}
		a.refuses("a ratchet key of low order", x, h, nil, api.ErrKey)
		a.refuses("a ratchet key of low order", y, h, nil, api.ErrKey)
		h.N = 60
		a.refuses("a ratchet key of low order, too far", y, h, nil, api.ErrKey)
		h.Prev = 17
		a.refuses("a ratchet key of low order, the row ahead too far", y, h, nil, api.ErrFar)
		h.Prev = 16
		a.refuses("a ratchet key of low order, the row ahead not too far", y, h, nil, api.ErrKey)
	}
	b := termer(t)
	x, _ = b.pair()
	h := api.Header{Session: x.Id}
	from := b.count()
	b.refuses("what is no ratchet key, by terms", x, h, make([]byte, 32), api.ErrOpen)
	b.made(from, "oRCMNK")
}

// Terms are made in the order in which the chapter's sentences name them.
func TestTermsOfOpen(t *testing.T) {
	a := termer(t)
	_, y := a.pair()
	y.HasSend, y.Mine = true, api.Key{4}
	for _, c := range []struct {
		h    api.Header
		want string
	}{
		{api.Header{Session: y.Id, Ratchet: y.Theirs}, "MNK"},
		{api.Header{Session: y.Id, Ratchet: y.Theirs, N: 2}, "MNMNK"},
		{api.Header{Session: y.Id, Ratchet: api.Key{8}, N: 1}, "oRCMNMNK"},
		{api.Header{Session: y.Id, Ratchet: api.Key{9}, N: 1, Prev: 5}, "MNMNoRCMNMNK"},
		{api.Header{Session: y.Id, Ratchet: api.Key{10}, N: 40, Prev: 5}, "oRC"},
		{api.Header{Session: y.Id, Ratchet: api.Key{11}, N: 40, Prev: 40}, ""},
		{api.Header{Session: y.Id, Ratchet: a.public(api.Key{5}), N: 0, Prev: 6}, "MNsRCMNK"},
	} {
		from := a.count()
		a.open(y, c.h, []byte("text"))
		a.made(from, c.want)
	}
	y.Kept = kept(api.Key{12}, 0, 1)
	from := a.count()
	a.open(y, api.Header{Session: y.Id, Ratchet: api.Key{12}}, nil)
	a.made(from, "K")
}

func TestOpenInAFullTable(t *testing.T) {
	for _, c := range []struct {
		h    api.Header
		want []api.Errno // by how many terms there is room for
	}{
		{api.Header{N: 0}, []api.Errno{4, 4, 4, 182, 182}},
		{api.Header{N: 1}, []api.Errno{4, 4, 4, 4, 4, 182}},
		{api.Header{Ratchet: api.Key{8}}, []api.Errno{190, 4, 4, 4, 4, 4, 182, 182}},
		{api.Header{Ratchet: api.Key{8}, N: 1, Prev: 1}, []api.Errno{4, 4, 190, 4, 4, 4, 4, 4, 4, 4, 182}},
		{api.Header{Ratchet: api.Key{12}}, []api.Errno{4, 182, 182}},
	} {
		for room, want := range c.want {
			a := termer(t)
			_, y := a.pair()
			y.HasSend, y.Mine, y.Kept = true, api.Key{4}, kept(api.Key{12}, 0, 1)
			c.h.Session = y.Id
			if c.h.Ratchet == (api.Key{}) {
				c.h.Ratchet = y.Theirs
			}
			a.fill(room)
			a.refuses("Open with little room", y, c.h, []byte("text"), want)
			a.refuses("Open once more", y, c.h, []byte("text"), want)
		}
	}
}

// madeUp is what a foe seals by what everybody knows: by zeros, and by the row whose key is zeros.
func (a asker) madeUp(h api.Header) (byZeros, byRow []byte) {
	a.Helper()
	for _, s := range []suite.Suite{a.s, a.m.s} {
		byZeros, _ = s.Seal(api.Key{}, []byte("made up"))
		letter := model{s}.next(&api.Chain{})
		key, _ := s.Mix('K', letter[:], headed(h))
		byRow, _ = s.Seal(key, []byte("made up"))
	}
	return byZeros, byRow
}

// A key that the full table can't give is none: what is sealed by zeros instead is neither opened nor made.
func TestNoKeyIsZeros(t *testing.T) {
	a := termer(t)
	x, y := a.pair()
	h := api.Header{Session: y.Id, Ratchet: y.Theirs}
	byZeros, _ := a.madeUp(h)
	a.fill(2)
	a.refuses("what is sealed by zeros", y, h, byZeros, api.ErrFull)
	_, _, _, e := a.seal(x, api.Key{}, []byte("made up"))
	a.is("Seal without a letter key", e, api.ErrFull)
}

// Nor is a row.
func TestNoRowIsZeros(t *testing.T) {
	for room, want := range []api.Errno{api.ErrKey, api.ErrFull, api.ErrFull} {
		a := termer(t)
		_, y := a.pair()
		mine := a.s.Fresh(api.Key{9})
		if mine != a.m.s.Fresh(api.Key{9}) {
			t.Fatal("the two suites have unlike secrets")
		}
		// What y would seal in a row of zeros is there already.
		a.madeUp(api.Header{Session: y.Id, Ratchet: a.public(mine)})
		a.fill(room)
		_, _, _, e := a.seal(y, api.Key{9}, []byte("made up"))
		a.is("Seal without a row", e, want)
	}
	for room, want := range []api.Errno{api.ErrKey, api.ErrFull, api.ErrFull} {
		a := termer(t)
		_, y := a.pair()
		h := api.Header{Session: y.Id, Ratchet: api.Key{8}}
		_, byRow := a.madeUp(h)
		y.HasSend, y.Mine = true, api.Key{4}
		a.fill(room)
		a.refuses("what is sealed by a row of zeros", y, h, byRow, want)
	}
}

// P18.3, ErrOpen: whatever the header says is sealed, too.
func TestOpenOfWhatIsChanged(t *testing.T) {
	for _, a := range askers(t) {
		x, y := a.pair()
		y.HasSend, y.Mine = true, api.Key{4}
		l := a.letters(&x, api.Key{}, 3)[2]
		change := func(set func(h *api.Header)) {
			t.Helper()
			h := l.Header
			set(&h)
			_, plain, e := a.open(y, h, l.body)
			if e == api.OK || len(plain) != 0 {
				t.Fatalf("a letter with the header %v instead of %v: %q", h, l.Header, plain)
			}
		}
		step := 1
		if a.count() == 0 {
			step = 7 // to reckon each bit takes seconds
		}
		for bit := 0; bit < 256; bit += step {
			change(func(h *api.Header) { h.Agree = turnedKey(h.Agree, bit) })
			change(func(h *api.Header) { h.Signer = turnedKey(h.Signer, bit) })
			change(func(h *api.Header) { h.Base = turnedKey(h.Base, bit) })
			change(func(h *api.Header) { h.Ratchet = turnedKey(h.Ratchet, bit) })
			change(func(h *api.Header) { h.Session = turnedKey(h.Session, bit) })
		}
		for bit := range 16 {
			change(func(h *api.Header) { h.Id ^= 1 << bit })
			change(func(h *api.Header) { h.N ^= 1 << bit })
			change(func(h *api.Header) { h.Prev ^= 1 << bit })
		}
		change(func(h *api.Header) { *h = api.Header{Session: h.Session, Ratchet: h.Ratchet, N: h.N, Prev: h.Prev} })
		for bit := range 8 * len(l.body) {
			a.refuses("a body with another bit", y, l.Header, turned(l.body, bit), api.ErrOpen)
		}
		for n := range l.body {
			a.refuses("a body that is cut off", y, l.Header, l.body[:n], api.ErrOpen)
		}
		a.refuses("a body with more behind", y, l.Header, append(slices.Clone(l.body), 0), api.ErrOpen)
		a.refuses("a body with a block behind", y, l.Header, append(slices.Clone(l.body), make([]byte, 16)...), api.ErrOpen)
		a.reads(&y, l.Header, l.body, "c")
	}
}
