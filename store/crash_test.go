package store_test

import (
	"fmt"
	"math/rand"
	"strings"
	"testing"

	"missive/api"
	"missive/disk"
	"missive/store"
)

// P16.2, of disks that die, and P16.4

// scripts are rows of commits that stand behind one another, that have just room, and that are compacted.
func scripts() [][][]api.Change {
	long := strings.Repeat("v", 100)
	return [][][]api.Change{
		{{put("a", "1")}, {put("b", "2")}, {put("a", "3"), gone("b")}, {put("c", "4")}, {gone("c"), gone("a")}, {put("d", "5")}},
		{{put("a", long)}, {put("b", "1")}, {put("a", long+"2"), put("b", "2")}, {put("c", "3")}, {gone("a")}, {put("a", long)}},
		{{put("a", "1"), put("b", "1")}, {gone("a"), put("b", "2")}, {gone("b"), put("a", "3")}, {gone("a")}, {put("b", "4")}},
	}
}

// calls is how many calls that write or sync a commit is: its record's blocks, its header, two syncs.
func calls(before, after *model) int {
	if before.half == after.half {
		return after.end - before.end + 3
	}
	return after.end - 1 + 3
}

// dies lets the disk die within a commit, and asks how the store is then, and how it is opened behind a crash.
func dies(t *testing.T, s *store.Store, d *disk.Disk, before, after *model, l []api.Change, fuse, keep int) *model {
	t.Helper()
	d.Fuse(fuse)
	commits(t, s, api.ErrDead, l...)
	if !d.Dead() {
		t.Error("the disk is not dead")
	}
	has(t, s, before.epoch, before.all()...)
	commits(t, s, api.ErrDead, l...)
	commits(t, s, api.ErrDead)
	commits(t, s, api.ErrArg, put("", ""))
	refuses(t, "a dead disk", d, api.ErrDead)
	has(t, s, before.epoch, before.all()...)
	d.Crash(keep)
	want := before
	// The header is the last write, and waits alone.
	if fuse == calls(before, after)-1 && keep > 0 {
		want = after
	}
	again := opens(t, d)
	has(t, again, want.epoch, want.all()...)
	return want
}

func TestEachDeathOfEachCommit(t *testing.T) {
	for n, script := range scripts() {
		for _, blocks := range []int{4, 5, 8, 9, 10, 16, 40} {
			for i := range script {
				deaths(t, fmt.Sprintf("script %d, %d blocks, commit %d", n, blocks, i), script, blocks, i)
				if t.Failed() {
					return
				}
			}
		}
	}
}

// deaths lets a script's commit die at each call, with each beginning of what waited kept, and then goes on.
func deaths(t *testing.T, what string, script [][]api.Change, blocks, at int) {
	t.Helper()
	for fuse := 0; ; fuse++ {
		for keep := 0; ; keep++ {
			d := disk.New(blocks)
			s, m := opens(t, d), begun(blocks)
			for _, l := range script[:at] {
				commits(t, s, m.commit(l), l...)
			}
			before, after := m.copied(), m.copied()
			if after.commit(script[at]) != api.OK || fuse >= calls(before, after) {
				return
			}
			if m = dies(t, s, d, before, after, script[at], fuse, keep); m == after {
				keeps(t, d, m)
			}
			s = opens(t, d)
			// What lies about of a commit that died is written over, or is never asked.
			for _, l := range script[at:] {
				commits(t, s, m.commit(l), l...)
				has(t, s, m.epoch, m.all()...)
				has(t, opens(t, d), m.epoch, m.all()...)
			}
			if t.Failed() {
				t.Fatalf("%s: a fuse of %d, %d kept", what, fuse, keep)
			}
			if keep > fuse {
				break
			}
		}
	}
}

func TestHowOftenACommitWrites(t *testing.T) {
	for _, script := range scripts() {
		for _, blocks := range []int{4, 8, 12, 40} {
			d := disk.New(blocks)
			s, m := opens(t, d), begun(blocks)
			for _, l := range script {
				before := m.copied()
				if m.commit(l) != api.OK {
					continue
				}
				d.Fuse(calls(before, m))
				commits(t, s, api.OK, l...)
				is(t, s, d, m)
				commits(t, s, api.OK)
				if e := d.Sync(); e != api.ErrDead {
					t.Fatal("a commit left some of the fuse")
				}
				d.Crash(0)
				is(t, s, d, m)
			}
		}
	}
}

func TestDrawnDeaths(t *testing.T) {
	r := rand.New(rand.NewSource(61))
	died := 0
	for row := range 400 {
		blocks := 4 + row%30
		d := disk.New(blocks)
		s, m := opens(t, d), begun(blocks)
		for range 40 {
			l := drawn(r, 1+blocks*6)
			after := m.copied()
			want := after.commit(l)
			if want != api.OK || len(l) == 0 || r.Intn(2) == 0 {
				commits(t, s, want, l...)
				m = after
				has(t, s, m.epoch, m.all()...)
				continue
			}
			died++
			m = dies(t, s, d, m, after, l, r.Intn(calls(m, after)), r.Intn(8))
			s = opens(t, d)
		}
		if t.Failed() {
			t.Fatalf("the row %d", row)
		}
	}
	if died < 1000 {
		t.Error(died)
	}
}
