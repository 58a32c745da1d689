package world_test

import (
	"bytes"
	"encoding/binary"
	"maps"
	"reflect"
	"slices"
	"strings"
	"testing"

	"missive/account"
	"missive/api"
	"missive/bag"
	"missive/client"
	"missive/disk"
	"missive/foe"
	"missive/relay"
	"missive/store"
	"missive/suite"
	"missive/world"
)

// The chapter's words, put down a second time, and held against each entry.

// place is a node of the model: one of server and device is there.
type place struct {
	server *api.Relay
	device *api.Client
	disk   *disk.Disk
	store  *store.Store
	down   bool
	taken  bool
	hangs  func() // what is put into the logs, if the rows are those
	rows   []api.Change
}

// model is a world by the words.
type model struct {
	c           api.Setting
	s           suite.Suite
	at          [256]*place
	way         []api.Parcel
	clock       uint32
	n           uint32
	seen        [][]byte
	held        []api.Key
	said, heard [256][256][][]byte
	terms0      int // how many terms were found to be the same
}

func modelOf(c api.Setting) *model {
	m := &model{c: c}
	if c.Free {
		m.s = suite.Free()
	}
	cache := api.Cache{Need: c.Need}
	secrets := map[byte]api.Key{}
	for _, i := range servers(c) {
		secrets[i] = m.s.Fresh(api.Key{0, 1, i})
		cache.First[i] = m.s.Signer(secrets[i])
	}
	homes := map[byte][api.MaxDevices]api.Home{}
	for _, d := range devices(c) {
		x := account.New(m.s, api.Key{0, 2, d}, api.Key{0, 3, d}, api.Key{0, 4, d})
		h := homes[d/4]
		h[d%4].Agree, h[d%4].Signer = account.Public(m.s, x)
		homes[d/4] = h
		y := client.New(d, x, cache)
		m.at[16+d] = &place{device: &y, disk: disk.New(1024)}
	}
	for _, i := range servers(c) {
		r := relay.New(m.s, i, secrets[i], cache, homes[i])
		m.at[i] = &place{server: &r, disk: disk.New(2048)}
	}
	for _, p := range m.at {
		if p != nil {
			p.store, _ = store.Open(p.disk)
			p.store.Commit(rowsOf(p.server, p.device))
		}
	}
	return m
}

func rowsOf(r *api.Relay, c *api.Client) []api.Change {
	l, ok := []api.Change(nil), false
	if r != nil {
		l, ok = relay.Rows(*r)
	} else {
		l, ok = client.Rows(*c)
	}
	if !ok {
		panic("rows that can't be written")
	}
	return l
}

// differ are the changes from some rows to others, by way of the names.
func differ(from, to []api.Change) (l []api.Change) {
	was, is := map[string][]byte{}, map[string][]byte{}
	for _, x := range from {
		was[x.Name] = x.Value
	}
	for _, x := range to {
		is[x.Name] = x.Value
	}
	for _, name := range slices.Sorted(maps.Keys(is)) {
		if v, ok := was[name]; !ok || !bytes.Equal(v, is[name]) {
			l = append(l, api.Change{Name: name, Value: is[name]})
		}
	}
	for _, name := range slices.Sorted(maps.Keys(was)) {
		if _, ok := is[name]; !ok {
			l = append(l, api.Change{Name: name, Gone: true})
		}
	}
	return l
}

func (m *model) draws() (k api.Key) {
	k[1] = 5
	binary.BigEndian.PutUint32(k[2:], m.n)
	return k
}

// becomes is a step that came to this.
func (m *model) becomes(p *place, r *api.Relay, c *api.Client, out [][]byte, logs func()) api.Errno {
	rows := rowsOf(r, c)
	switch e := p.store.Commit(differ(p.store.All(), rows)); e {
	case api.OK:
		p.server, p.device = r, c
		for _, b := range out {
			m.way, _ = bag.Lay(m.way, b, m.clock)
			m.seen = append(m.seen, b)
		}
		logs()
		m.own(p)
		return e
	case api.ErrDead:
		p.down, p.hangs, p.rows = true, logs, rows
		return e
	default:
		return e
	}
}

// own is what the foe holds of a node behind a step, if it is the foe's.
func (m *model) own(p *place) {
	var l []api.Key
	switch {
	case !p.taken:
		return
	case p.server != nil:
		l = []api.Key{p.server.First, p.server.Secret, p.server.TurnSecret}
	default:
		x := p.device.Account
		l = []api.Key{x.Agree, x.Sign, x.Fallback.Secret}
		for _, o := range x.Left {
			l = append(l, o.Secret)
		}
		for _, q := range p.device.Peers {
			for _, y := range q.Sessions {
				l = append(l, y.Root, y.Mine, y.Send.Key, y.Recv.Key)
				for _, k := range y.Kept {
					l = append(l, k.Key)
				}
			}
		}
	}
	for _, k := range l {
		if k != (api.Key{}) && !slices.Contains(m.held, k) {
			m.held = append(m.held, k)
		}
	}
}

func (m *model) handle(to byte, b []byte) api.Errno {
	p := m.at[to]
	if p == nil {
		return api.ErrNone
	}
	if p.down {
		return api.ErrDead
	}
	if p.server != nil {
		r, out, e := relay.Handle(m.s, *p.server, b)
		if e != api.OK {
			return e
		}
		return m.becomes(p, &r, nil, out, func() {})
	}
	c, l, e := client.Handle(m.s, *p.device, b, m.draws())
	if e != api.OK {
		return e
	}
	return m.becomes(p, nil, &c, nil, func() {
		for _, h := range l {
			m.heard[to-16][h.From] = append(m.heard[to-16][h.From], h.Said.Body)
		}
	})
}

func (m *model) deliver(i int) api.Errno {
	l, p, ok := bag.Take(m.way, i)
	if !ok {
		return api.ErrNone
	}
	m.way = l
	return m.handle(p.To, p.Bytes)
}

// node is the node that an entry is for: nil, if it isn't there.
func (m *model) node(e api.Entry) *place {
	who := int(e.Who)
	switch e.Kind {
	case api.ActRotate, api.ActTake:
		if who >= 16 {
			return nil
		}
	case api.ActSay, api.ActTrust, api.ActSteal:
		if who >= 16 {
			return nil
		}
		who += 16
	}
	return m.at[who]
}

func (m *model) do(e api.Entry) api.Errno {
	m.n++
	switch e.Kind {
	case api.ActClock:
		m.clock = uint32(min(uint64(m.clock)+1, 1<<32-1))
		return api.OK
	case api.ActPass:
		return m.deliver(e.N)
	case api.ActRipe:
		return m.deliver(bag.Ripe(m.way, m.clock))
	case api.ActDrop:
		l, _, ok := bag.Take(m.way, e.N)
		if !ok {
			return api.ErrNone
		}
		m.way = l
		return api.OK
	case api.ActDouble:
		if _, _, ok := bag.Take(m.way, e.N); !ok {
			return api.ErrNone
		}
		l, ok := bag.Double(m.way, e.N)
		if !ok {
			return api.ErrFull
		}
		m.way = l
		return api.OK
	}
	if e.Kind < 1 || e.Kind > 14 {
		return api.ErrArg
	}
	p := m.node(e)
	if p == nil {
		return api.ErrNone
	}
	return m.act(p, e)
}

func (m *model) act(p *place, e api.Entry) api.Errno {
	switch e.Kind {
	case api.ActFuse:
		p.disk.Fuse(e.N)
		return api.OK
	case api.ActStart:
		return m.start(p, e.N)
	case api.ActTake, api.ActSteal:
		p.taken = true
		m.own(p)
		return api.OK
	case api.ActForge:
		b, ok := foe.Cook(m.s, e.Steps, m.seen, m.held)
		if !ok {
			return api.ErrForm
		}
		m.seen = append(m.seen, b)
		return m.handle(e.Who, b)
	case api.ActSay:
		if strings.Contains(string(e.Text), "term") {
			return api.ErrArg
		}
	case api.ActTrust:
		if e.Peer >= 16 || m.at[16+e.Peer] == nil {
			return api.ErrNone
		}
	}
	if p.down {
		return api.ErrDead
	}
	return m.step(p, e)
}

func (m *model) step(p *place, e api.Entry) api.Errno {
	nothing := func() {}
	switch {
	case e.Kind == api.ActSay:
		c, _, x := client.Say(*p.device, e.Peer, e.Text)
		if x != api.OK {
			return x
		}
		return m.becomes(p, nil, &c, nil, func() { m.said[e.Who][e.Peer] = append(m.said[e.Who][e.Peer], bytes.Clone(e.Text)) })
	case e.Kind == api.ActTrust:
		h := m.at[e.Peer/4].server.Homes[e.Peer%4]
		c, x := client.Trust(*p.device, e.Peer, account.Print(m.s, h.Agree, h.Signer))
		if x != api.OK {
			return x
		}
		return m.becomes(p, nil, &c, nil, nothing)
	case e.Kind == api.ActRotate:
		r, out, x := relay.Rotate(m.s, *p.server, m.draws())
		if x != api.OK {
			return x
		}
		return m.becomes(p, &r, nil, out, nothing)
	case p.server != nil:
		r, out := relay.Tick(m.s, *p.server)
		return m.becomes(p, &r, nil, out, nothing)
	}
	c, out := client.Tick(m.s, *p.device, m.draws())
	return m.becomes(p, nil, &c, out, nothing)
}

func (m *model) start(p *place, keep int) api.Errno {
	p.disk.Crash(keep)
	s, e := store.Open(p.disk)
	if e != api.OK {
		panic("a store that can't be opened")
	}
	p.store = s
	ok := false
	if p.server != nil {
		*p.server, ok = relay.Load(s.All())
	} else {
		*p.device, ok = client.Load(s.All())
	}
	if !ok {
		panic("rows that say nothing")
	}
	p.down = false
	if p.hangs != nil && len(differ(p.rows, s.All())) == 0 {
		p.hangs()
	}
	p.hangs = nil
	m.own(p)
	return api.OK
}

func (m *model) calm(rounds int) {
	for _, n := range nodes(m.c) {
		m.at[n].disk.Fuse(-1)
	}
	for range min(max(rounds, 0), 1000) {
		for _, n := range nodes(m.c) {
			if m.at[n].down {
				m.do(start(n, 0))
			}
			m.do(tick(n))
		}
		for n := 0; n < 300 && len(m.way) > 0; n++ {
			if bag.Ripe(m.way, m.clock) >= 0 {
				m.do(ripe())
			} else {
				m.do(clock())
			}
		}
	}
}

// same tells whether two things are the same, but that nil and empty are one.
func same(a, b reflect.Value) bool {
	bytewise := (a.Kind() == reflect.Slice || a.Kind() == reflect.Array) && a.Type().Elem().Kind() == reflect.Uint8
	switch {
	case bytewise && a.Kind() == reflect.Slice:
		return bytes.Equal(a.Bytes(), b.Bytes())
	case !bytewise && (a.Kind() == reflect.Slice || a.Kind() == reflect.Array):
		if a.Len() != b.Len() {
			return false
		}
		for i := range a.Len() {
			if !same(a.Index(i), b.Index(i)) {
				return false
			}
		}
		return true
	case a.Kind() == reflect.Struct:
		for i := range a.NumField() {
			if !same(a.Field(i), b.Field(i)) {
				return false
			}
		}
		return true
	}
	return a.Interface() == b.Interface()
}

func alike(a, b any) bool { return same(reflect.ValueOf(a), reflect.ValueOf(b)) }

// holds fails, unless all that a world tells is what the model says.
func (m *model) holds(t testing.TB, w *world.World) {
	t.Helper()
	for i := range 256 {
		n := byte(i)
		p := m.at[n]
		if w.Down(n) != (p == nil || p.down) {
			t.Fatal("Down", n)
		}
		r, c := api.Relay{}, api.Client{}
		if i < 16 && p != nil {
			r = *p.server
		}
		if i < 16 && m.at[16+i] != nil {
			c = *m.at[16+i].device
		}
		if !alike(w.Relay(n), r) {
			t.Fatal("Relay", n)
		}
		if !alike(w.Client(n), c) {
			t.Fatal("Client", n)
		}
	}
	if !alike(w.Bag(), m.way) {
		t.Fatal("Bag", len(w.Bag()), len(m.way))
	}
	if !alike(w.Seen(), m.seen) {
		t.Fatal("Seen", len(w.Seen()), len(m.seen))
	}
	if !alike(w.Held(), m.held) {
		t.Fatal("Held", len(w.Held()), len(m.held))
	}
	m.logged(t, w)
	m.terms(t, w)
}

// logged fails, unless the logs are the model's.
func (m *model) logged(t testing.TB, w *world.World) {
	t.Helper()
	for a := range 256 {
		for b := range 256 {
			if a < 20 && b < 20 || a*b%251 == 7 {
				if !alike(w.Said(byte(a), byte(b)), m.said[a][b]) || !alike(w.Heard(byte(a), byte(b)), m.heard[a][b]) {
					t.Fatal("Said or Heard", a, b)
				}
			}
		}
	}
}

// terms fails, unless the same terms were made in the same order.
func (m *model) terms(t testing.TB, w *world.World) {
	t.Helper()
	got, want := w.Suite().Terms(), m.s.Terms()
	if (got == nil) != (want == nil) {
		t.Fatal("Suite")
	}
	if want == nil {
		return
	}
	if got.Len() != want.Len() {
		t.Fatalf("%d terms instead of %d", got.Len(), want.Len())
	}
	for ; m.terms0 < want.Len(); m.terms0++ {
		n := m.terms0 + 1
		k := api.Key{'t', 'e', 'r', 'm'}
		binary.BigEndian.PutUint32(k[4:], uint32(n))
		kind, parts, _ := got.Of(k)
		right, those, _ := want.Of(k)
		if kind != right || !alike(parts, those) {
			t.Fatalf("the term %d is another one", n)
		}
	}
}

func TestNewWords(t *testing.T) {
	for _, isFree := range []bool{true, false} {
		for _, c := range settings(isFree) {
			if !isFree && c.Need > 0 && c.Devices > 1 {
				continue
			}
			modelOf(c).holds(t, begun(t, c))
		}
	}
}

// All kinds of entries, drawn: each one's error, and at times all that the world tells.
func TestDoWords(t *testing.T) {
	t.Parallel()
	counts := map[api.Errno]int{}
	for _, isFree := range []bool{true, false} {
		for n, c := range settings(isFree) {
			d := drawer(n)
			size := 320
			if !isFree {
				if n%5 > 0 || testing.Short() {
					continue
				}
				size = 120
			}
			talk(t, &d, c, unlike(n), size, counts)
		}
	}
	for _, e := range []api.Errno{api.OK, api.ErrArg, api.ErrNone, api.ErrThere, api.ErrFull, api.ErrLong, api.ErrBusy, api.ErrDead, api.ErrForm, api.ErrOrder, api.ErrPeer, api.ErrSign} {
		if counts[e] < 5 {
			t.Errorf("error %d came %d times", e, counts[e])
		}
	}
	t.Log(counts)
}

// unlike are odds of one kind or another: of those where more is said, more doubled, more dies or more is forged than usual.
func unlike(n int) odds {
	o := usual()
	switch n % 5 {
	case 1:
		o[api.ActSay] = 40
	case 2:
		o[api.ActDouble] = 80
	case 3:
		o[api.ActFuse], o[api.ActStart] = 20, 20
	case 4:
		o[api.ActTake], o[api.ActForge] = 4, 40
	}
	return o
}

// talk does drawn entries in a world and in the model.
func talk(t *testing.T, d *drawer, c api.Setting, o odds, size int, counts map[api.Errno]int) {
	w, m := begun(t, c), modelOf(c)
	for i := range size {
		e := d.entry(c, o, w)
		got, want := w.Do(e), m.do(e)
		counts[want]++
		if got != want {
			t.Fatalf("%v, entry %d: %v: %d instead of %d", c, i, e, got, want)
		}
		if i%20 == 0 {
			m.holds(t, w)
		}
		if i%150 == 100 {
			w.Calm(2)
			m.calm(2)
			m.holds(t, w)
		}
	}
	m.holds(t, w)
}
