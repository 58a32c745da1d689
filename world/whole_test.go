package world_test

import (
	"bytes"
	"slices"
	"testing"

	"missive/api"
	"missive/client"
	"missive/relay"
	"missive/wire"
	"missive/world"
)

// The promises of the whole.

// watched is a world, and what was seen of it from outside while it ran.
type watched struct {
	*world.World
	t      testing.TB
	c      api.Setting
	stolen map[byte]bool
	posts  []post
	done   []api.Entry
	came   []api.Errno
}

// post is a letter that a device sent itself.
type post struct {
	from, to byte
	body     []byte
}

func watch(t testing.TB, c api.Setting) *watched {
	return &watched{World: begun(t, c), t: t, c: c, stolen: map[byte]bool{}}
}

// run does an entry, and notes what a device posts by it.
func (w *watched) run(e api.Entry) api.Errno {
	was := 0
	ticks := e.Kind == api.ActTick && e.Who >= 16
	if ticks {
		was = len(w.Seen())
	}
	x := w.Do(e)
	w.done, w.came = append(w.done, e), append(w.came, x)
	if e.Kind == api.ActSteal && x == api.OK {
		w.stolen[e.Who] = true
	}
	if ticks && x == api.OK {
		for _, b := range w.Seen()[was:] {
			w.sent(e.Who-16, b)
		}
	}
	return x
}

// sent notes the letter that a device's packet has in it, if it has one.
func (w *watched) sent(d byte, b []byte) {
	p, e := wire.GetPacket(b)
	c, x := wire.GetCall(p.Body)
	if e != api.OK || x != api.OK || p.From != 16+d {
		w.t.Fatal("a device sent what is no call of its own")
	}
	if c.Kind == api.CallPost {
		w.posts = append(w.posts, post{d, c.Letter.To, c.Letter.Body})
	}
}

func (w *watched) safe(l ...byte) bool {
	return !slices.ContainsFunc(l, func(d byte) bool { return w.stolen[d] })
}

// inOrder is T1: what a safe device has heard of a safe one is a beginning of what that one said to it.
func (w *watched) inOrder() (heard int) {
	w.t.Helper()
	for _, a := range devices(w.c) {
		for _, b := range devices(w.c) {
			if !w.safe(a, b) {
				continue
			}
			said, l := w.Said(a, b), w.Heard(b, a)
			heard += len(l)
			if len(l) > len(said) || !alike(said[:len(l)], l) {
				w.t.Fatalf("%d said to %d %q, which heard %q", a, b, said, l)
			}
		}
	}
	return heard
}

// secret is T2: nothing that should be known to safe devices alone is known of all that was seen and held, and of the foe's own secrets.
func (w *watched) secret() (asked int) {
	w.t.Helper()
	s := w.Suite()
	sources := w.Seen()
	for _, k := range w.Held() {
		sources = append(sources, k[:])
	}
	for n := range 4 {
		k := s.Fresh(api.Key{0, 251, 0, byte(n)})
		sources = append(sources, k[:])
	}
	known := s.Terms().Known(sources)
	never := func(what string, k []byte) {
		if !bytes.Equal(k, make([]byte, len(k))) {
			asked++
			if known.Has(k) {
				w.t.Fatal("known:", what)
			}
		}
	}
	for _, p := range w.posts {
		if w.safe(p.from, p.to) {
			kind, parts, ok := s.Terms().Of(api.Key(p.body[:32]))
			if !ok || kind != 8 || len(parts) != 2 {
				w.t.Fatal("a letter that isn't sealed")
			}
			never("the key of a letter", parts[0])
		}
	}
	for _, d := range devices(w.c) {
		if w.safe(d) {
			w.secrets(d, never)
		}
	}
	return asked
}

// secrets are a safe device's, and those of its sessions with safe ones.
func (w *watched) secrets(d byte, never func(string, []byte)) {
	c := w.Client(d)
	never("what a device agrees by", c.Account.Agree[:])
	never("what a device signs by", c.Account.Sign[:])
	never("a fallback key", c.Account.Fallback.Secret[:])
	for _, o := range c.Account.Left {
		never("a one-time key", o.Secret[:])
	}
	for _, p := range c.Peers {
		if !w.safe(p.Device) {
			continue
		}
		for _, y := range p.Sessions {
			for _, k := range []api.Key{y.Root, y.Mine, y.Send.Key, y.Recv.Key} {
				never("a session's key", k[:])
			}
			for _, k := range y.Kept {
				never("a key that is kept", k.Key[:])
			}
		}
	}
}

// room is T7: what nodes keep is within the limits.
func (w *watched) room() {
	w.t.Helper()
	most := func(what string, n, limit int) {
		if n > limit {
			w.t.Fatalf("%s: %d", what, n)
		}
	}
	for _, i := range servers(w.c) {
		r := w.Relay(i)
		l, ok := relay.Rows(r)
		w.rows(l, ok)
		most("keys", len(r.Chain), 4)
		for n := range 4 {
			most("queue", len(r.Queues[n].Items), 8)
			most("wait", int(r.Queues[n].Back), 16)
			most("sent", r.Queues[n].Sent, 4)
			most("inbox", len(r.Homes[n].Inbox.Items), 8)
			most("shelf", len(r.Homes[n].Shelf.Left), 8)
		}
	}
	for _, d := range devices(w.c) {
		c := w.Client(d)
		l, ok := client.Rows(c)
		w.rows(l, ok)
		most("one-time keys", len(c.Account.Left), 8)
		most("peers", len(c.Peers), 8)
		for _, p := range c.Peers {
			most("sessions", len(p.Sessions), 4)
			most("out", len(p.Out), 8)
			most("held", len(p.Held), 8)
			for _, y := range p.Sessions {
				most("kept", len(y.Kept), 16)
			}
		}
	}
	most("bag", len(w.Bag()), 64)
}

func (w *watched) rows(l []api.Change, ok bool) {
	w.t.Helper()
	if !ok || len(l) > 64 {
		w.t.Fatal("rows", len(l), ok)
	}
	for _, x := range l {
		if len(x.Name) == 0 || len(x.Name) > 32 || len(x.Value) > 4000 {
			w.t.Fatal("a row", x.Name, len(x.Value))
		}
	}
}

// T1, T2 and T7, whatever the script.
func TestWhateverTheScript(t *testing.T) {
	t.Parallel()
	heard, asked := 0, 0
	for n, c := range settings(true) {
		if c.Servers*c.Devices < 2 {
			continue
		}
		for seed := range 2 {
			if testing.Short() && (n+seed)%4 > 0 {
				continue
			}
			d := drawer(1000*seed + n)
			w := watch(t, c)
			for _, e := range all(c) {
				if d.below(5) > 0 {
					w.run(e)
				}
			}
			for i := range 350 {
				w.run(d.entry(c, usual(), w.World))
				if i%100 == 99 {
					w.inOrder()
					w.room()
				}
			}
			w.stayCalm(10)
			heard += w.inOrder()
			asked += w.secret()
			w.room()
		}
	}
	t.Log(heard, asked)
	if heard < 40 || asked < 500 {
		t.Error("too little came of it", heard, asked)
	}
}

// All servers are a foe's: it hands letters on in any order, again and again, or bent, and others' keys instead of those that were asked for. What is heard is a beginning of what was said still, and nothing is known.
func TestAllServersAreAFoes(t *testing.T) {
	t.Parallel()
	heard, taken := 0, 0
	for n, c := range settings(true) {
		if c.Servers*c.Devices < 2 || n%2 == 1 {
			continue
		}
		d := drawer(2000 + n)
		w := watch(t, c)
		for _, e := range all(c) {
			w.run(e)
		}
		for _, s := range servers(c) {
			w.run(take(s))
		}
		for i := range 250 {
			x := of(&d, devices(c))
			switch d.below(7) {
			case 0:
				w.run(say(x, of(&d, devices(c)), string(d.said())))
			case 1:
				w.run(d.entry(c, usual(), w.World))
			case 2:
				w.run(pass(d.below(len(w.Bag()) + 1)))
			case 3, 4:
				w.run(tick(16 + x))
			default:
				if w.run(d.reply(w.World, x/4, x)) == api.OK {
					taken++
				}
			}
			if i == 120 {
				w.stayCalm(4)
			}
		}
		w.stayCalm(10)
		heard += w.inOrder()
		w.secret()
		w.room()
	}
	t.Log(heard, taken)
	if heard < 100 || taken < 100 {
		t.Error("too little came of it:", heard, taken)
	}
}

// stayCalm is Calm, entry by entry, so that what is posted meanwhile is noted.
func (w *watched) stayCalm(rounds int) {
	for range rounds {
		for _, n := range nodes(w.c) {
			if w.Down(n) {
				w.run(start(n, 0))
			}
			w.run(tick(n))
		}
		for range 300 {
			if len(w.Bag()) > 0 && w.run(ripe()) == api.ErrNone {
				w.run(clock())
			}
		}
	}
}
