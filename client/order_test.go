package client_test

import (
	"fmt"
	"testing"

	"missive/account"
	"missive/api"
	"missive/relay"
	"missive/suite"
	"missive/wire"
)

// P23.6, of a net in which packets are lost, doubled and late, servers take new keys, and devices are read from their rows

// talker is a device: what it said and heard, by to whom and of whom.
type talker struct {
	c     api.Client
	said  map[byte][]string
	heard map[byte]int
}

// talkers are devices that trust each other.
func (a asker) talkers(need byte, devices ...byte) map[byte]*talker {
	a.Helper()
	m := map[byte]*talker{}
	for _, d := range devices {
		x := both(a, func(s suite.Suite) api.Account { return account.New(s, run(100+d), run(120+d), run(140+d)) })
		c := a.begin(d, x, a.cache(need))
		m[d] = &talker{c: c, said: map[byte][]string{}, heard: map[byte]int{}}
	}
	for _, d := range devices {
		for _, e := range devices {
			if e == d {
				continue
			}
			agree, signer := a.public(m[e].c)
			print := both(a, func(s suite.Suite) api.Key { return account.Print(s, agree, signer) })
			var err api.Errno
			m[d].c, err = a.trust(m[d].c, e, print)
			a.is("Trust", err, api.OK)
		}
	}
	return m
}

func (a asker) public(c api.Client) (agree, signer api.Key) {
	both(a, func(s suite.Suite) int {
		agree, signer = account.Public(s, c.Account)
		return 0
	})
	return agree, signer
}

// talks lets the talker say something to another one, if it may.
func (a asker) talks(d byte, x *talker, to byte) {
	a.Helper()
	text := fmt.Sprint(d, " to ", to, ": ", len(x.said[to])+1)
	c, n, e := a.say(x.c, to, []byte(text))
	if e != api.OK {
		a.is("Say", e, api.ErrFull)
		return
	}
	x.c, x.said[to] = c, append(x.said[to], text)
	if int(n) != len(x.said[to]) {
		a.Fatalf("%d says %q with the number %d", d, text, n)
	}
}

// hears lets the talker hear: just what the others said, each thing once, in order.
func (a asker) hears(m map[byte]*talker, d byte, l []api.Heard) {
	a.Helper()
	for _, x := range l {
		n := m[d].heard[x.From] + 1
		m[d].heard[x.From] = n
		if said := m[x.From].said[d]; n > len(said) || int(x.Said.N) != n || string(x.Said.Body) != said[n-1] {
			a.Fatalf("%d hears of %d, as the thing %d: %v %q", d, x.From, n, x.Said.N, x.Said.Body)
		}
	}
}

// again reads a device from its rows.
func (a asker) again(c api.Client) api.Client {
	a.Helper()
	l, ok := rows(a.T, c)
	d, good := load(a.T, l)
	if !ok || !good || differs(d, c) != "" {
		a.Fatalf("a device isn't read again: %t %t %s", ok, good, differs(d, c))
	}
	return d
}

// net are two servers with two devices each, and what is on the way.
type net struct {
	a       asker
	d       drawer
	servers [2]api.Relay
	devices []byte
	talkers map[byte]*talker
	way     [][]byte
}

func (a asker) net(seed int, need byte) *net {
	a.Helper()
	n := &net{a: a, d: drawer(seed), devices: []byte{0, 1, 4, 5}}
	n.talkers = a.talkers(need, n.devices...)
	cache := a.cache(need)
	cache.First[2], cache.First[3] = api.Key{}, api.Key{}
	var homes [2][4]api.Home
	for d, x := range n.talkers {
		x.c.Cache = cache
		h := &homes[d/4][d%4]
		h.Agree, h.Signer = a.public(x.c)
	}
	for i := range n.servers {
		n.servers[i] = both(a, func(s suite.Suite) api.Relay { return relay.New(s, byte(i), secret(byte(i), 0), cache, homes[i]) })
	}
	return n
}

// anyone is one of the devices.
func (n *net) anyone() byte { return n.devices[n.d.below(4)] }

// serves lets a server do something.
func (n *net) serves(i int, do func(s suite.Suite, r api.Relay) (api.Relay, [][]byte, api.Errno)) api.Errno {
	type answer struct {
		r   api.Relay
		out [][]byte
		e   api.Errno
	}
	was := n.servers[i]
	got := both(n.a, func(s suite.Suite) answer {
		r, out, e := do(s, was)
		return answer{r, out, e}
	})
	n.servers[i], n.way = got.r, append(n.way, got.out...)
	return got.e
}

func (n *net) ticks(i int) {
	n.serves(i, func(s suite.Suite, r api.Relay) (api.Relay, [][]byte, api.Errno) {
		r, out := relay.Tick(s, r)
		return r, out, api.OK
	})
}

func (n *net) calls(d byte) {
	n.a.Helper()
	x := n.talkers[d]
	c, out := n.a.tick(x.c, n.d.key())
	x.c, n.way = c, append(n.way, out...)
}

// pass lets arrive what is on the way at a place.
func (n *net) pass(at int) {
	n.a.Helper()
	b := n.way[at]
	n.lose(at)
	p, e := wire.GetPacket(b)
	n.a.is("a packet", e, api.OK)
	if p.To < 16 {
		e = n.serves(int(p.To), func(s suite.Suite, r api.Relay) (api.Relay, [][]byte, api.Errno) { return relay.Handle(s, r, b) })
		if e != api.OK && e != api.ErrOrder && e != api.ErrFull && e != api.ErrWhen {
			n.a.Fatalf("a packet of the kind %d: %d", p.Kind, e)
		}
		return
	}
	d := p.To - 16
	c, heard, e := n.a.handle(n.talkers[d].c, b, n.d.key())
	if e != api.OK && e != api.ErrOrder {
		n.a.Fatalf("a reply: %d", e)
	}
	n.talkers[d].c = c
	n.a.hears(n.talkers, d, heard)
}

func (n *net) lose(at int) {
	n.way[at] = n.way[len(n.way)-1]
	n.way = n.way[:len(n.way)-1]
}

// step is something that happens.
func (n *net) step() {
	n.a.Helper()
	switch kind := n.d.below(40); {
	case kind < 4:
		d, to := n.anyone(), n.anyone()
		if d != to {
			n.a.talks(d, n.talkers[d], to)
		}
	case kind < 12:
		n.calls(n.anyone())
	case kind < 15:
		n.ticks(n.d.below(2))
	case kind == 15 && n.d.below(3) == 0:
		draw := n.d.key()
		n.serves(n.d.below(2), func(s suite.Suite, r api.Relay) (api.Relay, [][]byte, api.Errno) { return relay.Rotate(s, r, draw) })
	case kind == 16:
		x := n.talkers[n.anyone()]
		x.c = n.a.again(x.c)
	case len(n.way) == 0:
	case kind == 17:
		n.lose(n.d.below(len(n.way)))
	case kind == 18:
		n.way = append(n.way, n.way[n.d.below(len(n.way))])
	default:
		n.pass(n.d.below(len(n.way)))
	}
}

// calm lets all arrive from now on, till all that was said is heard.
func (n *net) calm() {
	n.a.Helper()
	said, most := 0, 200
	for _, x := range n.talkers {
		for _, l := range x.said {
			said += len(l)
		}
	}
	for round := range most + 14*said {
		for i := range n.servers {
			n.ticks(i)
		}
		for _, d := range n.devices {
			n.calls(d)
		}
		for len(n.way) > 0 {
			n.pass(0)
		}
		if n.left() == 0 {
			n.a.Logf("%d things, all heard behind %d rounds", said, round)
			return
		}
	}
	n.a.Fatalf("of %d things %d aren't heard", said, n.left())
}

// left is how much that was said wasn't heard.
func (n *net) left() (left int) {
	for d, x := range n.talkers {
		for to, l := range x.said {
			left += len(l) - n.talkers[to].heard[d]
		}
	}
	return left
}

func TestWhatIsSaidIsHeard(t *testing.T) {
	for seed := range 4 {
		n := termer(t).net(seed, byte(seed)%2)
		for range 1500 {
			n.step()
		}
		n.calm()
	}
	if testing.Short() {
		return
	}
	n := reckoner(t).net(9, 0)
	for range 200 {
		n.step()
	}
	n.calm()
}

// P23.6 where all servers are a foe's: it brings what it likes of what it saw, and what it can make.

type foe struct {
	a       asker
	d       drawer
	devices []byte
	talkers map[byte]*talker
	letters []api.Letter
	bundles []api.Bundle
}

func (a asker) foe(seed int) *foe {
	a.Helper()
	f := &foe{a: a, d: drawer(seed), devices: []byte{0, 1, 4}}
	f.talkers = a.talkers(0, f.devices...)
	return f
}

func (f *foe) anyone() byte { return f.devices[f.d.below(len(f.devices))] }

func (f *foe) letter() api.Letter { return f.letters[f.d.below(len(f.letters))] }

// serves lets a device tick, and answers it somehow.
func (f *foe) serves(d byte) {
	f.a.Helper()
	x := f.talkers[d]
	c, out := f.a.tick(x.c, f.d.key())
	x.c = c
	p, e := wire.GetPacket(out[0])
	f.a.is("a packet", e, api.OK)
	call, e := wire.GetCall(p.Body)
	f.a.is("a call", e, api.OK)
	y := api.Reply{Seq: call.Seq, From: call.Since + 1}
	switch {
	case f.d.below(9) == 0:
		y.Why = byte(f.d.below(9))
	case call.Kind == api.CallPost:
		f.letters = append(f.letters, call.Letter)
	case call.Kind == api.CallUpload:
		f.bundles = append(f.bundles, call.Bundles...)
	}
	for range f.d.below(5) {
		y.Items = append(y.Items, f.item(d))
	}
	q := f.a.replyOf(c, y)
	if f.d.below(20) == 0 {
		q.Body = q.Body[1:]
	}
	b := f.a.signed(secret(d/4, 0), q)
	if f.d.below(20) == 0 {
		b[f.d.below(len(b))]++
	}
	c, heard, _ := f.a.handle(x.c, b, f.d.key())
	x.c = c
	f.a.hears(f.talkers, d, heard)
}

// item is something for a device: mostly what should come next.
func (f *foe) item(d byte) api.Item {
	f.a.Helper()
	if f.d.below(2) == 0 {
		if x, ok := f.right(d); ok {
			return x
		}
	}
	switch {
	case f.d.below(5) == 0:
		return api.Item{Kind: api.ItemNone, Asker: d, Peer: f.anyone()}
	case f.d.below(3) == 0 && len(f.bundles) > 0:
		return give(d, f.bundle(d))
	case f.d.below(4) == 0 && len(f.bundles) > 0:
		return api.Item{Kind: api.ItemLetter, Letter: f.forged(d)}
	case len(f.letters) > 0:
		return api.Item{Kind: api.ItemLetter, Letter: f.spoilt(d)}
	}
	return api.Item{Kind: api.ItemAsk, Asker: d, Peer: f.anyone()}
}

// right is one of the next letters for the device, or the newest key of another one.
func (f *foe) right(d byte) (api.Item, bool) {
	of := f.anyone()
	if f.d.below(4) == 0 {
		for i := len(f.bundles) - 1; i >= 0; i-- {
			if f.bundles[i].Device == of {
				return give(d, f.bundles[i]), true
			}
		}
		return api.Item{}, false
	}
	n := f.talkers[d].heard[of] + f.d.below(4) - 1
	for _, x := range f.letters {
		if x.From == of && x.To == d {
			if n == 0 {
				return api.Item{Kind: api.ItemLetter, Letter: x}, true
			}
			n--
		}
	}
	return api.Item{}, false
}

// spoilt is a letter that was seen, as it was, or with something of another one.
func (f *foe) spoilt(d byte) api.Letter {
	x, y := f.letter(), f.letter()
	x.Body = copied(x.Body)
	switch f.d.below(12) {
	case 0:
		x.From = f.anyone()
	case 1:
		x.From = f.anyone()
		x.To = d
	case 2:
		x.Header = y.Header
	case 3:
		x.Body = copied(y.Body)
	case 4:
		x.Header.N = y.Header.N
	case 5:
		x.Header.Ratchet = y.Header.Ratchet
	case 6:
		x.Header.Session = y.Header.Session
	case 7:
		x.Header.Base, x.Header.Id = y.Header.Base, y.Header.Id
	case 8:
		x.Body[f.d.below(len(x.Body))] ^= 1 << f.d.below(8)
	case 9:
		x.Header.Prev = uint16(f.d.below(20))
	case 10:
		x.Header.First = !x.Header.First
	}
	if !x.Header.First {
		x.Header.Agree, x.Header.Signer, x.Header.Base, x.Header.Id = api.Key{}, api.Key{}, api.Key{}, 0
	}
	return x
}

// bundle is one that was seen, or the foe's own, perhaps with something else.
func (f *foe) bundle(d byte) api.Bundle {
	b := f.bundles[f.d.below(len(f.bundles))]
	own := both(f.a, func(s suite.Suite) []api.Bundle { return account.Bundles(s, owned(13, 1), b.Device) })[f.d.below(2)]
	switch f.d.below(6) {
	case 0:
		return own
	case 1:
		b.Once = own.Once
	case 2:
		b.Once, b.Sig = own.Once, own.Sig
	case 3:
		b.Device = f.anyone()
	case 4:
		b.Agree, b.Signer = own.Agree, own.Signer
	}
	return b
}

// forged is a first letter that the foe wrote by its own keys, under another one's number, perhaps with that one's keys in its header.
func (f *foe) forged(d byte) api.Letter {
	f.a.Helper()
	as := f.anyone()
	for _, b := range f.bundles {
		if b.Device != d || f.d.below(3) > 0 {
			continue
		}
		e, draw := f.d.key(), f.d.key()
		x := both(f.a, func(s suite.Suite) api.Session {
			x, _ := account.Begin(s, owned(13, 1), b, e, draw)
			return x
		})
		agree, signer := f.a.public(f.talkers[as].c)
		if f.d.yes() {
			x.Agree, x.Signer = agree, signer
		}
		if f.d.yes() {
			x.Id, _ = f.a.mix('I', agree[:], x.Base[:], b.Once[:])
		}
		w := &writer{device: as, x: x}
		return f.a.writes(w, d, uint16(1+f.d.below(3)), "forged").Letter
	}
	return api.Letter{From: as, To: d, Header: api.Header{First: true}}
}

func (a asker) mix(label byte, parts ...[]byte) (api.Key, bool) {
	var ok bool
	k := both(a, func(s suite.Suite) api.Key {
		k, good := s.Mix(label, parts...)
		ok = good
		return k
	})
	return k, ok
}

func (f *foe) run(steps int) {
	f.a.Helper()
	for range steps {
		d := f.anyone()
		switch f.d.below(12) {
		case 0, 1, 2:
			if to := f.anyone(); to != d {
				f.a.talks(d, f.talkers[d], to)
			}
		case 3:
			f.talkers[d].c = f.a.again(f.talkers[d].c)
		default:
			f.serves(d)
		}
	}
	heard := 0
	for _, x := range f.talkers {
		for _, n := range x.heard {
			heard += n
		}
	}
	if heard < steps/100 {
		f.a.Errorf("only %d things are heard", heard)
	}
	f.a.Logf("%d letters, %d keys, %d heard", len(f.letters), len(f.bundles), heard)
}

func TestNothingIsMadeUp(t *testing.T) {
	for seed := range 6 {
		termer(t).foe(seed).run(1000)
	}
	if !testing.Short() {
		reckoner(t).foe(7).run(100)
	}
}
