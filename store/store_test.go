package store_test

import (
	"bytes"
	"fmt"
	"math"
	"math/rand"
	"slices"
	"strings"
	"testing"

	"missive/api"
	"missive/disk"
	"missive/store"
)

// P16.1, of disks on which nothing is spoilt

func TestOpenOfNoDiskAndOfSmallOnes(t *testing.T) {
	refuses(t, "no disk", nil, api.ErrArg)
	for blocks := 1; blocks < 4; blocks++ {
		d := disk.New(blocks)
		refuses(t, "a small disk", d, api.ErrArg)
		if d.Waits() != 0 || !bytes.Equal(d.Kept(), make([]byte, blocks*api.Block)) {
			t.Errorf("%d blocks: written to", blocks)
		}
		d.Fuse(0)
		d.Sync()
		refuses(t, "a small disk that is dead", d, api.ErrArg)
	}
}

func TestOpenOfADeadDisk(t *testing.T) {
	for _, first := range [][]byte{make([]byte, api.Block), head(1, 0, 1), bytes.Repeat([]byte{7}, api.Block)} {
		d := laid(t, 4, part{0, first})
		d.Fuse(0)
		d.Sync()
		refuses(t, "a dead disk", d, api.ErrDead)
		if !bytes.Equal(d.Kept()[:api.Block], first) {
			t.Error("a dead disk is another one")
		}
	}
}

func TestOpenBegins(t *testing.T) {
	for _, blocks := range []int{4, 5, 6, 7, 8, 9, 100, 101, api.MaxBlocks - 1, api.MaxBlocks} {
		d := disk.New(blocks)
		s := opens(t, d)
		is(t, s, d, begun(blocks))
		if b := d.Kept(); !bytes.Equal(b[:24], []byte("head\x00\x00\x00\x00\x00\x00\x00\x01\x00\x00\x00\x00\x00\x00\x00\x01\x00\x00\x04\x05")) {
			t.Errorf("the header: %x", b[:24])
		}
		is(t, opens(t, d), d, begun(blocks))
	}
}

func TestOpenBeginsByAWriteAndASync(t *testing.T) {
	for fuse := range 2 {
		for keep := range 2 {
			d := disk.New(4)
			d.Fuse(fuse)
			refuses(t, "a disk that dies", d, api.ErrDead)
			if !d.Dead() || d.Waits() != fuse {
				t.Errorf("a fuse of %d: %d writes wait", fuse, d.Waits())
			}
			d.Crash(keep)
			is(t, opens(t, d), d, begun(4))
		}
	}
	d := disk.New(4)
	d.Fuse(2)
	s := opens(t, d)
	is(t, s, d, begun(4))
	commits(t, s, api.ErrDead, put("a", "x"))
}

func TestOpenOfAStoreWritesNothing(t *testing.T) {
	d := disk.New(8)
	s, m := opens(t, d), begun(8)
	for _, l := range [][]api.Change{{put("a", "x")}, {put("b", "y"), gone("a")}, {put("c", strings.Repeat("z", 100))}, {put("a", "w")}} {
		commits(t, s, m.commit(l), l...)
		d.Fuse(0)
		is(t, opens(t, d), d, m)
		if d.Dead() {
			t.Fatal("Open wrote")
		}
		d.Fuse(-1)
	}
}

func TestTheGreaterEpochCounts(t *testing.T) {
	for _, c := range []struct{ low, high uint64 }{{1, 2}, {2, 1}, {0, 1}, {1, 0}, {255, 256}, {256, 255}, {1 << 31, 1<<31 - 1}, {1 << 32, math.MaxUint32},
		{1 << 63, 1<<63 - 1}, {1<<63 - 1, 1 << 63}, {math.MaxUint64, 0}, {0, math.MaxUint64}, {math.MaxUint64, math.MaxUint64 - 1}, {5, 1 << 40}} {
		a, b := record(c.low, 1, payload(put("a", "low"))), record(c.high, 1, payload(put("b", "high")))
		d := laid(t, 8, part{0, head(c.low, 1, 2)}, part{1, a}, part{4, head(c.high, 1, 2)}, part{5, b})
		if c.low > c.high {
			has(t, opens(t, d), c.low, put("a", "low"))
		} else {
			has(t, opens(t, d), c.high, put("b", "high"))
		}
	}
	for _, epoch := range []uint64{0, 1, 7, math.MaxUint64} {
		a := record(epoch, 1, payload(put("a", "alone")))
		has(t, opens(t, laid(t, 8, part{0, head(epoch, 1, 2)}, part{1, a})), epoch, put("a", "alone"))
		has(t, opens(t, laid(t, 8, part{4, head(epoch, 1, 2)}, part{5, a})), epoch, put("a", "alone"))
		has(t, opens(t, laid(t, 9, part{4, head(epoch, 1, 2)}, part{5, a})), epoch, put("a", "alone"))
		has(t, opens(t, laid(t, 8, part{4, head(epoch, 0, 1)})), epoch)
	}
}

func TestRecordsAreDoneInOrder(t *testing.T) {
	rows := [][]api.Change{{put("a", "1"), put("b", "1")}, {gone("a"), put("c", ""), put("a", "2"), put("a", "3")}, {}, {gone("b"), gone("b"), gone("d")}, {put("c", "4"), gone("c")}}
	want := [][]api.Change{{}, {put("a", "1"), put("b", "1")}, {put("a", "3"), put("b", "1"), put("c", "")}, {put("a", "3"), put("b", "1"), put("c", "")}, {put("a", "3"), put("c", "")}, {put("a", "3")}}
	for n := range len(rows) + 1 {
		var all []byte
		for k, l := range rows[:n] {
			all = append(all, record(9, uint64(k+1), payload(l...))...)
		}
		d := laid(t, 20, part{10, head(9, uint64(n), uint64(n+1))}, part{11, all})
		has(t, opens(t, d), 9, want[n]...)
	}
}

func TestRecordsOfSeveralBlocks(t *testing.T) {
	// The payload of a put of n bytes has n + 9 bytes, of which 56 stand in the first block.
	for n := range 400 {
		l := []api.Change{put("a", strings.Repeat("v", n))}
		r := record(3, 1, payload(l...))
		if want := (n + 17 + 63) / 64; len(r)/api.Block != want {
			t.Fatalf("%d bytes: %d blocks, want %d", n, len(r)/api.Block, want)
		}
		end := uint64(len(r)/api.Block + 1)
		d := laid(t, 20, part{0, head(3, 2, end+1)}, part{1, r}, part{int(end), record(3, 2, payload(put("b", "y")))})
		has(t, opens(t, d), 3, l[0], put("b", "y"))
	}
}

func TestWhatStandsBehindIsNotAsked(t *testing.T) {
	begin := func() []byte {
		h := head(5, 2, 3)
		r := append(record(5, 1, payload(put("a", "x"))), record(5, 2, payload(put("b", "y")))...)
		return slices.Concat(h, r, head(9, 1, 2), record(9, 1, payload(put("c", "z"))), head(4, 2, 2), bytes.Repeat([]byte{5}, 5*api.Block))
	}
	// Behind a header, behind payloads, behind the end, in the other half's records, and behind both halves.
	for _, at := range []int{24, 40, 63, 64 + 18, 64 + 40, 127, 128 + 18, 191, 192, 200, 319, 320 + 24, 383, 384, 390, 500, 640, 703} {
		b := begin()
		b[at] ^= 0xff
		has(t, opens(t, laid(t, 11, part{0, b})), 5, put("a", "x"), put("b", "y"))
	}
}

func TestAsManyNamesAsMayBe(t *testing.T) {
	l := names(64)
	end := uint64(1 + len(record(2, 1, payload(l...)))/api.Block)
	d := laid(t, 200, part{0, head(2, 2, end+1)}, part{1, record(2, 1, payload(l...))}, part{int(end), record(2, 2, payload(put("new", "v"), gone("n00")))})
	has(t, opens(t, d), 2, append(slices.Clone(l[1:]), put("new", "v"))...)
}

// names is so many puts, by rising names.
func names(n int) []api.Change {
	var l []api.Change
	for i := range n {
		l = append(l, put(fmt.Sprintf("n%02d", i), "v"))
	}
	return l
}

// P16.2

func TestCommitRefuses(t *testing.T) {
	long, name := strings.Repeat("l", 4001), strings.Repeat("n", 33)
	full := names(64)
	for _, c := range []struct {
		what string
		want api.Errno
		l    []api.Change
	}{
		{"no name", api.ErrArg, []api.Change{put("", "v")}},
		{"no name, gone", api.ErrArg, []api.Change{gone("")}},
		{"a name of 33 bytes", api.ErrArg, []api.Change{put(name, "v")}},
		{"a name of 33 bytes, gone", api.ErrArg, []api.Change{gone(name)}},
		{"a long name", api.ErrArg, []api.Change{put(strings.Repeat("n", 1<<16+1), "v")}},
		{"gone, and has a value", api.ErrArg, []api.Change{{Name: "a", Value: []byte("v"), Gone: true}}},
		{"gone, and has a value of one zero byte", api.ErrArg, []api.Change{{Name: "a", Value: []byte{0}, Gone: true}}},
		{"gone, and has a long value", api.ErrArg, []api.Change{{Name: "a", Value: []byte(long), Gone: true}}},
		{"no name, and a long value", api.ErrArg, []api.Change{put("", long)}},
		{"a value of 4001 bytes", api.ErrLong, []api.Change{put("a", long)}},
		{"a value of 65536 bytes", api.ErrLong, []api.Change{put("a", string(make([]byte, 1<<16)))}},
		{"a long value ahead of no name", api.ErrLong, []api.Change{put("a", "v"), put("a", long), put("", "v")}},
		{"no name ahead of a long value", api.ErrArg, []api.Change{put("a", "v"), put("", "v"), put("a", long)}},
		{"a long value that is gone again", api.ErrLong, []api.Change{put("a", long), gone("a")}},
		{"65 names", api.ErrFull, names(65)},
		{"65 changes of one name", api.ErrFull, slices.Repeat([]api.Change{put("a", "v")}, 65)},
		{"65 changes, all gone", api.ErrFull, slices.Repeat([]api.Change{gone("a")}, 65)},
		{"128 changes", api.ErrFull, slices.Repeat(full, 2)},
		{"257 changes", api.ErrFull, slices.Repeat([]api.Change{gone("a")}, 257)},
		{"65 changes, the last one without a name", api.ErrArg, append(slices.Clone(full), put("", "v"))},
		{"66 changes, the last one with a long value", api.ErrLong, append(names(65), put("a", long))},
		{"64 changes, of which one makes a 65th name", api.ErrFull, append(names(64)[1:], put("new", "v"))},
	} {
		d := disk.New(400)
		s, m := opens(t, d), begun(400)
		commits(t, s, m.commit(names(60)), names(60)...)
		d.Fuse(0)
		commits(t, s, c.want, c.l...)
		if d.Dead() {
			t.Errorf("%s: written", c.what)
		}
		is(t, s, d, m)
		d.Fuse(-1)
		commits(t, s, m.commit([]api.Change{put("n01", "again")}), put("n01", "again"))
		is(t, s, d, m)
		is(t, opens(t, d), d, m)
	}
}

func TestCommitTakes(t *testing.T) {
	all := make([]byte, 256)
	for i := range all {
		all[i] = byte(i)
	}
	for _, l := range [][]api.Change{
		{put("a", "x")},
		{put("a", "")},
		{{Name: "a"}},
		{put("\x00", "\x00")},
		{put("\xff\xfe", string(all))},
		{put(strings.Repeat("n", 32), strings.Repeat("v", 4000))},
		{put(strings.Repeat("\x00", 32), string(make([]byte, 4000)))},
		{put(string(all[:32]), "1"), put(string(all[32:64]), "2"), put(string(all[224:]), "3")},
		{gone("a")},
		{gone(strings.Repeat("n", 32))},
		{{Name: "a", Value: []byte{}, Gone: true}},
		{put("a", "x"), gone("a")},
		{gone("a"), put("a", "x")},
		{put("b", "1"), put("a", "2"), put("b", "3")},
		{put("ab", "1"), put("a", "2"), put("b", "3"), put("B", "4"), put("a\x00", "5"), put("\x80", "6"), put("é", "7")},
		names(64),
		slices.Repeat([]api.Change{put("a", "x")}, 64),
		slices.Repeat([]api.Change{put("b", "x"), gone("b")}, 32),
	} {
		d := disk.New(400)
		s, m := opens(t, d), begun(400)
		for range 2 {
			if e := m.commit(l); e != api.OK {
				t.Fatal("the model:", e)
			}
			commits(t, s, api.OK, l...)
			is(t, s, d, m)
			is(t, opens(t, d), d, m)
		}
	}
}

func TestCommitAtTheLimitOfNames(t *testing.T) {
	d := disk.New(api.MaxBlocks)
	s, m := opens(t, d), begun(api.MaxBlocks)
	for _, c := range []struct {
		want api.Errno
		l    []api.Change
	}{
		{api.OK, names(64)},
		{api.ErrFull, []api.Change{put("new", "v")}},
		{api.ErrFull, []api.Change{put("new", "v"), gone("not there")}},
		{api.OK, []api.Change{put("new", "v"), gone("n05")}},
		{api.OK, []api.Change{put("n05", "v"), put("more", "v"), gone("new"), gone("more")}},
		{api.OK, []api.Change{put("new", "v"), gone("new")}},
		{api.OK, []api.Change{put("n06", "other")}},
		{api.ErrFull, []api.Change{gone("n06"), put("n06", "v"), put("new", "v")}},
		{api.OK, []api.Change{gone("n06")}},
		{api.ErrFull, []api.Change{put("n06", "v"), put("new", "v")}},
		{api.OK, []api.Change{put("new", "v")}},
		{api.ErrFull, []api.Change{put("n06", "v")}},
	} {
		if e := m.commit(c.l); e != c.want {
			t.Fatal("the model:", e)
		}
		commits(t, s, c.want, c.l...)
		is(t, s, d, m)
	}
	is(t, opens(t, d), d, m)
}

func TestCommitOfNothing(t *testing.T) {
	for _, blocks := range []int{4, 8} {
		d := disk.New(blocks)
		s, m := opens(t, d), begun(blocks)
		for _, name := range []string{"", "a", "b"} {
			if name != "" {
				commits(t, s, m.commit([]api.Change{put(name, "x")}), put(name, "x"))
			}
			d.Fuse(0)
			commits(t, s, api.OK)
			if e := s.Commit([]api.Change{}); e != api.OK || d.Dead() {
				t.Error("Commit of an empty list:", e)
			}
			is(t, s, d, m)
			d.Fuse(-1)
		}
	}
}

func TestTheRecordOfAnExample(t *testing.T) {
	d := disk.New(8)
	s := opens(t, d)
	for i, want := range []uint64{1, 1, 1, 2, 2, 2, 3, 3, 3, 4} {
		commits(t, s, api.OK, put("a", "x"))
		has(t, s, want, put("a", "x"))
		b := d.Kept()
		// The record 1 and the record 2 of the epoch 1, the record 1 of the epoch 2.
		switch i {
		case 0:
			begins(t, b[0:], "head\x00\x00\x00\x00\x00\x00\x00\x01\x00\x00\x00\x01\x00\x00\x00\x02\x00\x00\x04\x29")
			begins(t, b[64:], "\x00\x00\x00\x0a\x00\x00\x16\x88\x01\x00\x07\x02\x00\x01a\x00\x01x\x00\x00\x00")
		case 1:
			begins(t, b[128:], "\x00\x00\x00\x0a\x00\x00\x16\x94\x01\x00\x07\x02\x00\x01a\x00\x01x\x00\x00\x00")
		case 3:
			begins(t, b[256:], "head\x00\x00\x00\x00\x00\x00\x00\x02\x00\x00\x00\x01\x00\x00\x00\x02\x00\x00\x04\x35")
			begins(t, b[320:], "\x00\x00\x00\x0a\x00\x00\x16\x90\x01\x00\x07\x02\x00\x01a\x00\x01x\x00\x00\x00")
		}
	}
}

func begins(t *testing.T, b []byte, want string) {
	t.Helper()
	if string(b[:len(want)]) != want {
		t.Errorf("%x, want %x", b[:len(want)], want)
	}
}

func TestRecordsUpToTheEndOfAHalf(t *testing.T) {
	// A put of n bytes has a payload of n + 9, and needs 8 bytes more.
	for blocks := 4; blocks < 14; blocks++ {
		room := (blocks/2 - 1) * api.Block
		for _, first := range []bool{false, true} {
			for n := max(0, room-17-70); n <= room-17+3; n++ {
				d := disk.New(blocks)
				s, m := opens(t, d), begun(blocks)
				if first {
					commits(t, s, m.commit([]api.Change{gone("a")}), gone("a"))
				}
				l := []api.Change{put("a", strings.Repeat("v", n))}
				want := api.OK
				if n > room-17 {
					want = api.ErrFull
				}
				if e := m.commit(l); e != want {
					t.Fatalf("%d blocks, %d bytes: the model: %d", blocks, n, e)
				}
				commits(t, s, want, l...)
				is(t, s, d, m)
				commits(t, s, m.commit([]api.Change{put("b", "1")}), put("b", "1"))
				is(t, s, d, m)
				is(t, opens(t, d), d, m)
			}
		}
	}
}

func TestCompactedByRisingNames(t *testing.T) {
	d := disk.New(12)
	s, m := opens(t, d), begun(12)
	for _, name := range []string{"m", "z", "A", "\xff", "ab", "\x00", "a", "b", "abc", "é", "~", "M", "aa"} {
		l := []api.Change{put(name, name+name)}
		if e := m.commit(l); e != api.OK {
			t.Fatal("the model:", e)
		}
		commits(t, s, api.OK, l...)
		is(t, s, d, m)
	}
	if m.epoch < 3 {
		t.Error("compacted to the epoch", m.epoch)
	}
}

func TestCompactedToNothing(t *testing.T) {
	d := disk.New(4)
	s, m := opens(t, d), begun(4)
	for i := range 5 {
		l := []api.Change{put("a", "x"), gone("a")}[i%2 : i%2+1]
		if e := m.commit(l); e != api.OK || m.epoch != uint64(i+1) {
			t.Fatal("the model:", e, m.epoch)
		}
		commits(t, s, api.OK, l...)
		is(t, s, d, m)
		is(t, opens(t, d), d, m)
	}
}

func TestCompactionThatHasNoRoom(t *testing.T) {
	// A half of four blocks has room for a payload of 184 bytes.
	d := disk.New(8)
	s, m := opens(t, d), begun(8)
	for _, c := range []struct {
		want api.Errno
		l    []api.Change
	}{
		{api.OK, []api.Change{put("a", strings.Repeat("v", 150))}},
		{api.ErrFull, []api.Change{put("b", strings.Repeat("w", 18))}},
		{api.OK, []api.Change{put("b", strings.Repeat("w", 17))}},
		{api.ErrFull, []api.Change{put("c", "")}},
		{api.ErrFull, []api.Change{put("a", strings.Repeat("v", 151))}},
		{api.OK, []api.Change{put("a", strings.Repeat("u", 150))}},
		{api.OK, []api.Change{gone("b")}},
		{api.ErrFull, []api.Change{put("a", strings.Repeat("v", 4000))}},
		{api.OK, []api.Change{put("a", "")}},
	} {
		if e := m.commit(c.l); e != c.want {
			t.Fatal("the model:", e)
		}
		if c.want == api.ErrFull {
			d.Fuse(0)
		}
		commits(t, s, c.want, c.l...)
		if d.Dead() {
			t.Error("written")
		}
		d.Fuse(-1)
		is(t, s, d, m)
		is(t, opens(t, d), d, m)
	}
}

func TestTheGreatestEpoch(t *testing.T) {
	for half := range 2 {
		for _, more := range []uint64{0, 1} {
			epoch := math.MaxUint64 - more
			r := record(epoch, 1, payload(put("a", "x")))
			d := laid(t, 6, part{3 * half, head(epoch, 1, 2)}, part{3*half + 1, r})
			s := opens(t, d)
			commits(t, s, api.OK, put("b", "y"))
			has(t, s, epoch, put("a", "x"), put("b", "y"))
			if more == 0 {
				kept := d.Kept()
				d.Fuse(0)
				commits(t, s, api.ErrCount, put("c", "z"))
				// It is told ahead of the room that the other half hasn't.
				commits(t, s, api.ErrCount, put("c", strings.Repeat("z", 4000)))
				commits(t, s, api.ErrArg, put("", "z"))
				commits(t, s, api.ErrLong, put("c", strings.Repeat("z", 4001)))
				commits(t, s, api.ErrFull, names(65)...)
				commits(t, s, api.OK)
				if d.Dead() || !bytes.Equal(d.Kept(), kept) {
					t.Error("written")
				}
				has(t, opens(t, d), epoch, put("a", "x"), put("b", "y"))
				continue
			}
			commits(t, s, api.OK, put("c", "z"))
			has(t, s, math.MaxUint64, put("a", "x"), put("b", "y"), put("c", "z"))
			has(t, opens(t, d), math.MaxUint64, put("a", "x"), put("b", "y"), put("c", "z"))
		}
	}
}

func TestAStoreOnADeadDisk(t *testing.T) {
	for _, own := range []bool{false, true} {
		d := disk.New(8)
		s, m := opens(t, d), begun(8)
		l := append(names(2), put("a", "x"))
		commits(t, s, m.commit(l), l...)
		d.Fuse(0)
		if own {
			commits(t, s, api.ErrDead, put("a", "y"))
		} else {
			d.Sync()
		}
		for range 2 {
			commits(t, s, api.ErrArg, put("", "v"))
			commits(t, s, api.ErrArg, api.Change{Name: "a", Value: []byte("v"), Gone: true})
			commits(t, s, api.ErrLong, put("a", strings.Repeat("v", 4001)))
			commits(t, s, api.ErrFull, names(65)...)
			commits(t, s, api.ErrFull, append(slices.Repeat([]api.Change{gone("n00")}, 64), gone("n01"))...)
			commits(t, s, api.ErrFull, slices.Concat(names(64)[2:], []api.Change{put("b", "v"), put("c", "v")})...)
			commits(t, s, api.ErrDead, put("a", "y"))
			commits(t, s, api.ErrDead, gone("a"))
			commits(t, s, api.ErrDead)
			// The room that is missing isn't told: nothing is written any more.
			commits(t, s, api.ErrDead, put("a", strings.Repeat("v", 4000)))
			is(t, s, d, m)
		}
		refuses(t, "a dead disk", d, api.ErrDead)
		d.Crash(0)
		is(t, opens(t, d), d, m)
	}
}

func TestADeadDiskAheadOfTheGreatestEpoch(t *testing.T) {
	r := record(math.MaxUint64, 1, payload(put("a", "x")))
	d := laid(t, 4, part{0, head(math.MaxUint64, 1, 2)}, part{1, r})
	s := opens(t, d)
	commits(t, s, api.ErrCount, put("a", "y"))
	d.Fuse(0)
	d.Sync()
	commits(t, s, api.ErrDead, put("a", "y"))
	has(t, s, math.MaxUint64, put("a", "x"))
}

func TestTheGreatestDisk(t *testing.T) {
	d := disk.New(api.MaxBlocks)
	s, m := opens(t, d), begun(api.MaxBlocks)
	big := func(n, size int) []api.Change {
		var l []api.Change
		for i := range n {
			l = append(l, put(fmt.Sprintf("n%02d", i), strings.Repeat(string(rune('a'+i%26)), size)))
		}
		return l
	}
	for _, c := range []struct {
		want api.Errno
		l    []api.Change
	}{
		{api.OK, big(32, 4000)},
		{api.OK, big(32, 3990)},
		{api.ErrFull, big(64, 4000)},
		{api.ErrFull, big(33, 4000)},
		{api.OK, big(64, 2000)},
		{api.OK, big(64, 2036)},
		{api.ErrFull, big(64, 2037)},
	} {
		if e := m.commit(c.l); e != c.want {
			t.Fatal("the model:", e)
		}
		commits(t, s, c.want, c.l...)
		is(t, s, d, m)
		is(t, opens(t, d), d, m)
	}
}

// P16.3

func TestGetAndAll(t *testing.T) {
	d := disk.New(40)
	s := opens(t, d)
	has(t, s, 1)
	commits(t, s, api.OK, put("b", "1"), put("a", ""), put("c", "3"))
	has(t, s, 1, put("a", ""), put("b", "1"), put("c", "3"))
	commits(t, s, api.OK, gone("b"), put("c", "4"))
	has(t, s, 1, put("a", ""), put("c", "4"))
	for _, name := range []string{"b", "A", "aa", "", "a "} {
		if v, ok := s.Get(name); ok || len(v) != 0 {
			t.Errorf("Get(%q): %q %t", name, v, ok)
		}
	}
	if v, ok := s.Get("a"); !ok || len(v) != 0 {
		t.Errorf("Get of an empty value: %q %t", v, ok)
	}
	commits(t, s, api.OK, gone("a"), gone("c"))
	has(t, s, 1)
}

// Rules that hold everywhere

func TestMemory(t *testing.T) {
	d := disk.New(40)
	s := opens(t, d)
	room := []byte("value and room")
	l := []api.Change{{Name: "a", Value: room[:5]}, {Name: "b", Value: room[10:12:12]}, {Name: "c", Gone: true}}
	given := slices.Clone(l)
	commits(t, s, api.OK, l[:2]...)
	if string(room) != "value and room" || !slices.EqualFunc(l, given, alike) {
		t.Errorf("changed to %q, %v", room, l)
	}
	clear(room)
	clear(l)
	want := []api.Change{put("a", "value"), put("b", "ro")}
	has(t, s, 1, want...)
	for _, s := range []*store.Store{s, opens(t, d)} {
		v, _ := s.Get("a")
		again, _ := s.Get("a")
		all, other := s.All(), s.All()
		for _, b := range [][]byte{v, all[0].Value, all[1].Value} {
			clear(b[:cap(b)])
		}
		all[0].Name, all = "z", append(all[:1], put("y", "y"))
		if string(again) != "value" || !slices.EqualFunc(other, want, alike) {
			t.Errorf("two answers share memory: %q %v", again, other)
		}
		has(t, s, 1, want...)
	}
	commits(t, s, api.OK, put("c", "x"))
	has(t, opens(t, d), 1, append(want, put("c", "x"))...)
}

func TestARefusedCallKeepsNothing(t *testing.T) {
	d := disk.New(4)
	s := opens(t, d)
	commits(t, s, api.OK, put("a", "x"))
	commits(t, s, api.ErrFull, put("a", "y"), put("b", strings.Repeat("z", 100)))
	has(t, s, 1, put("a", "x"))
	commits(t, s, api.OK, put("c", "w"))
	has(t, s, 2, put("a", "x"), put("c", "w"))
}

func TestTwoStores(t *testing.T) {
	c, d := disk.New(4), disk.New(40)
	a, b := opens(t, c), opens(t, d)
	for i := range 5 {
		commits(t, a, api.OK, put("a", "x"))
		has(t, a, uint64(i+1), put("a", "x"))
		has(t, b, 1)
	}
	commits(t, b, api.OK, put("b", "y"))
	c.Fuse(0)
	commits(t, a, api.ErrDead, put("a", "z"))
	commits(t, b, api.OK, put("b", "z"))
	has(t, a, 5, put("a", "x"))
	has(t, b, 1, put("b", "z"))
}

// drawn is changes of a few names.
func drawn(r *rand.Rand, size int) []api.Change {
	var l []api.Change
	for range r.Intn(5) {
		name := string(rune('a' + r.Intn(6)))
		if r.Intn(3) == 0 {
			l = append(l, gone(name))
		} else {
			l = append(l, put(name, strings.Repeat(string(rune('0'+r.Intn(10))), r.Intn(size))))
		}
	}
	return l
}

func TestDrawnRows(t *testing.T) {
	r := rand.New(rand.NewSource(16))
	ended := map[api.Errno]int{}
	for row := range 300 {
		blocks := 4 + row%40
		d := disk.New(blocks)
		s, m := opens(t, d), begun(blocks)
		for range 40 {
			l := drawn(r, 1+blocks*12)
			want := m.commit(l)
			ended[want]++
			commits(t, s, want, l...)
			is(t, s, d, m)
			if r.Intn(4) == 0 {
				s = opens(t, d)
				is(t, s, d, m)
			}
		}
		if t.Failed() {
			t.FailNow()
		}
	}
	if ended[api.OK] < 1000 || ended[api.ErrFull] < 100 {
		t.Error(ended)
	}
}
