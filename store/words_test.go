package store_test

import (
	"bytes"
	"encoding/binary"
	"maps"
	"math"
	"slices"
	"testing"

	"missive/api"
	"missive/disk"
	"missive/store"
)

// The chapter's words, put down a second time.

func number(n uint64, size int) []byte { return binary.BigEndian.AppendUint64(nil, n)[8-size:] }

func joined(pieces ...[]byte) []byte {
	b := []byte{byte(len(pieces))}
	for _, p := range pieces {
		b = append(b, byte(len(p)/256), byte(len(p)%256))
		b = append(b, p...)
	}
	return b
}

// check is S, in 4 bytes.
func check(b []byte) []byte {
	sum := uint64(0)
	for i, x := range b {
		sum += uint64(i+1) * uint64(x)
	}
	return number(sum%2147483647, 4)
}

func filled(b []byte) []byte {
	for len(b)%api.Block != 0 {
		b = append(b, 0)
	}
	return b
}

func head(epoch, count, end uint64) []byte {
	b := slices.Concat([]byte("head"), number(epoch, 8), number(count, 4), number(end, 4))
	return filled(append(b, check(b)...))
}

func record(epoch, k uint64, payload []byte) []byte {
	size := number(uint64(len(payload)), 4)
	sum := check(slices.Concat(number(epoch, 8), number(k, 4), size, payload))
	return filled(slices.Concat(size, sum, payload))
}

func payload(l ...api.Change) []byte {
	var pieces [][]byte
	for _, c := range l {
		if c.Gone {
			pieces = append(pieces, joined([]byte(c.Name)))
		} else {
			pieces = append(pieces, joined([]byte(c.Name), c.Value))
		}
	}
	return joined(pieces...)
}

func put(name, value string) api.Change { return api.Change{Name: name, Value: []byte(value)} }

func gone(name string) api.Change { return api.Change{Name: name, Gone: true} }

// part is what stands on a disk from a block on.
type part struct {
	at int
	b  []byte
}

// laid is a disk on which parts stand, whole and synced.
func laid(t *testing.T, blocks int, parts ...part) *disk.Disk {
	t.Helper()
	d := disk.New(blocks)
	for _, p := range parts {
		for i := 0; i < len(p.b); i += api.Block {
			if e := d.Write(p.at+i/api.Block, p.b[i:i+api.Block]); e != api.OK {
				t.Fatalf("the block %d of %d: %d", p.at+i/api.Block, blocks, e)
			}
		}
	}
	d.Sync()
	return d
}

// model is what a store should be, and its disk's bytes.
type model struct {
	disk         []byte
	h, half, end int
	epoch, count uint64
	values       map[string]string
}

func begun(blocks int) *model {
	m := &model{disk: make([]byte, blocks*api.Block), h: blocks / 2, end: 1, epoch: 1, values: map[string]string{}}
	m.lay(0, head(1, 0, 1))
	return m
}

func (m *model) lay(at int, b []byte) { copy(m.disk[(m.half*m.h+at)*api.Block:], b) }

func (m *model) copied() *model {
	c := *m
	c.disk, c.values = slices.Clone(m.disk), maps.Clone(m.values)
	return &c
}

// all is the values as changes, by rising names.
func (m *model) all() []api.Change {
	var l []api.Change
	for name, v := range m.values {
		l = append(l, put(name, v))
	}
	slices.SortFunc(l, func(a, b api.Change) int { return bytes.Compare([]byte(a.Name), []byte(b.Name)) })
	return l
}

// commit is one on a disk that doesn't die.
func (m *model) commit(l []api.Change) api.Errno {
	for _, c := range l {
		if len(c.Name) < 1 || len(c.Name) > 32 || c.Gone && len(c.Value) != 0 {
			return api.ErrArg
		}
		if len(c.Value) > 4000 {
			return api.ErrLong
		}
	}
	next := m.copied()
	for _, c := range l {
		delete(next.values, c.Name)
		if !c.Gone {
			next.values[c.Name] = string(c.Value)
		}
	}
	if len(l) > 64 || len(next.values) > 64 {
		return api.ErrFull
	}
	if len(l) == 0 {
		return api.OK
	}
	return m.write(next, record(m.epoch, m.count+1, payload(l...)))
}

// write makes the model the next one, by a record of its half, or by one of all values in the other.
func (m *model) write(next *model, r []byte) api.Errno {
	next.count++
	if m.end+len(r)/api.Block > m.h {
		if m.epoch == math.MaxUint64 {
			return api.ErrCount
		}
		next.half, next.epoch, next.count, next.end = 1-m.half, m.epoch+1, 1, 1
		r = record(next.epoch, 1, payload(next.all()...))
		if 1+len(r)/api.Block > m.h {
			return api.ErrFull
		}
	}
	next.lay(next.end, r)
	next.end += len(r) / api.Block
	next.lay(0, head(next.epoch, next.count, uint64(next.end)))
	*m = *next
	return api.OK
}

// The calls, asked.

func opens(t *testing.T, d *disk.Disk) *store.Store {
	t.Helper()
	s, e := store.Open(d)
	if e != api.OK || s == nil {
		t.Fatalf("Open: %v %d", s, e)
	}
	return s
}

func refuses(t *testing.T, what string, d *disk.Disk, want api.Errno) {
	t.Helper()
	if s, e := store.Open(d); s != nil || e != want {
		t.Errorf("%s: Open: %v %d, want %d", what, s != nil, e, want)
	}
}

func commits(t *testing.T, s *store.Store, want api.Errno, l ...api.Change) {
	t.Helper()
	if e := s.Commit(l); e != want {
		t.Errorf("Commit of %d changes: %d, want %d", len(l), e, want)
	}
}

func alike(a, b api.Change) bool {
	return a.Name == b.Name && a.Gone == b.Gone && bytes.Equal(a.Value, b.Value)
}

// has asks all that a store tells.
func has(t *testing.T, s *store.Store, epoch uint64, l ...api.Change) {
	t.Helper()
	if s.Epoch() != epoch {
		t.Errorf("Epoch: %d, want %d", s.Epoch(), epoch)
	}
	if got := s.All(); !slices.EqualFunc(got, l, alike) {
		t.Errorf("All: %d of them, %v, want %d, %v", len(got), got, len(l), l)
	}
	for _, c := range l {
		if v, ok := s.Get(c.Name); !ok || !bytes.Equal(v, c.Value) {
			t.Errorf("Get(%q): %.100q %t, want %.100q", c.Name, v, ok, c.Value)
		}
	}
	for _, name := range []string{"", "not there", "\x00", "a\x00", string(make([]byte, 33))} {
		named := func(c api.Change) bool { return c.Name == name }
		if v, ok := s.Get(name); !slices.ContainsFunc(l, named) && (ok || len(v) != 0) {
			t.Errorf("Get(%q): %q %t", name, v, ok)
		}
	}
}

// is asks whether a store and its disk are as the model, and nothing waits.
func is(t *testing.T, s *store.Store, d *disk.Disk, m *model) {
	t.Helper()
	has(t, s, m.epoch, m.all()...)
	keeps(t, d, m)
	if d.Waits() != 0 {
		t.Errorf("%d writes wait", d.Waits())
	}
}

func keeps(t *testing.T, d *disk.Disk, m *model) {
	t.Helper()
	got := d.Kept()
	if len(got) != len(m.disk) {
		t.Fatalf("%d bytes are kept, want %d", len(got), len(m.disk))
	}
	for i := 0; i < len(got); i += api.Block {
		if g, w := got[i:i+api.Block], m.disk[i:i+api.Block]; !bytes.Equal(g, w) {
			t.Errorf("the block %d: %x, want %x", i/api.Block, g, w)
		}
	}
}
