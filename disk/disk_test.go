package disk_test

import (
	"bytes"
	"fmt"
	"math"
	"testing"

	"missive/api"
	"missive/disk"
)

// block is a block's bytes: no two neighbours alike, so that one that is moved or left out shows.
func block(from int) []byte {
	b := make([]byte, api.Block)
	for i := range b {
		b[i] = byte(from + 7*i)
	}
	return b
}

// zeros is a block that was never written.
func zeros() []byte { return make([]byte, api.Block) }

// row is blocks, one behind the other.
func row(blocks ...[]byte) []byte { return bytes.Join(blocks, nil) }

func wrote(t *testing.T, d *disk.Disk, at int, b []byte, want api.Errno) {
	t.Helper()
	if e := d.Write(at, b); e != want {
		t.Errorf("Write(%d) of %d bytes: %d, want %d", at, len(b), e, want)
	}
}

func synced(t *testing.T, d *disk.Disk, want api.Errno) {
	t.Helper()
	if e := d.Sync(); e != want {
		t.Errorf("Sync: %d, want %d", e, want)
	}
}

func reads(t *testing.T, d *disk.Disk, at int, want []byte) {
	t.Helper()
	if b, e := d.Read(at); e != api.OK || !bytes.Equal(b, want) {
		t.Errorf("Read(%d): %x %d, want %x", at, b, e, want)
	}
}

func unread(t *testing.T, d *disk.Disk, at int, want api.Errno) {
	t.Helper()
	if b, e := d.Read(at); e != want || len(b) != 0 {
		t.Errorf("Read(%d): %d bytes, %d, want %d", at, len(b), e, want)
	}
}

func keeps(t *testing.T, d *disk.Disk, want ...[]byte) {
	t.Helper()
	if b := d.Kept(); !bytes.Equal(b, row(want...)) {
		t.Errorf("Kept: %x, want %x", b, row(want...))
	}
}

func stands(t *testing.T, d *disk.Disk, waits int, dead bool) {
	t.Helper()
	if d.Waits() != waits || d.Dead() != dead {
		t.Errorf("%d writes wait, dead: %t, want %d, %t", d.Waits(), d.Dead(), waits, dead)
	}
}

// P15.1

func TestNew(t *testing.T) {
	for _, c := range [][2]int{
		{math.MinInt, 1}, {-api.MaxBlocks, 1}, {-1, 1}, {0, 1}, {1, 1}, {2, 2}, {63, 63}, {64, 64}, {65, 65},
		{api.MaxBlocks - 1, api.MaxBlocks - 1}, {api.MaxBlocks, api.MaxBlocks}, {api.MaxBlocks + 1, api.MaxBlocks}, {math.MaxInt, api.MaxBlocks},
	} {
		d, n := disk.New(c[0]), c[1]
		if d.Blocks() != n {
			t.Errorf("New(%d): %d blocks, want %d", c[0], d.Blocks(), n)
		}
		if !bytes.Equal(d.Kept(), make([]byte, n*api.Block)) {
			t.Errorf("New(%d): %d bytes are kept, not all of them zeros", c[0], len(d.Kept()))
		}
		stands(t, d, 0, false)
		reads(t, d, 0, zeros())
		reads(t, d, n-1, zeros())
		for _, at := range []int{0, n - 1} {
			wrote(t, d, at, block(at), api.OK)
			reads(t, d, at, block(at))
		}
		for _, at := range []int{math.MinInt, -n, -1, n, n + 1, 2 * n, api.MaxBlocks, math.MaxInt} {
			wrote(t, d, at, block(1), api.ErrArg)
			unread(t, d, at, api.ErrArg)
		}
		stands(t, d, 2, false)
	}
}

func TestEachBlockByItself(t *testing.T) {
	d := disk.New(api.MaxBlocks)
	var all [][]byte
	for at := range api.MaxBlocks {
		b := block(at)
		b[0] = byte(at / 256)
		all = append(all, b)
		wrote(t, d, at, b, api.OK)
	}
	stands(t, d, api.MaxBlocks, false)
	synced(t, d, api.OK)
	for at, b := range all {
		reads(t, d, at, b)
	}
	keeps(t, d, all...)
}

func TestWaits(t *testing.T) {
	d := disk.New(3)
	for n := range 100 {
		stands(t, d, n, false)
		wrote(t, d, n%2, block(n%2), api.OK)
	}
	synced(t, d, api.OK)
	stands(t, d, 0, false)
	wrote(t, d, 0, block(0), api.OK)
	stands(t, d, 1, false)
	d.Crash(1)
	stands(t, d, 0, false)
}

func TestKeptIsWithoutWhatWaits(t *testing.T) {
	d := disk.New(3)
	wrote(t, d, 1, block(1), api.OK)
	keeps(t, d, zeros(), zeros(), zeros())
	synced(t, d, api.OK)
	keeps(t, d, zeros(), block(1), zeros())
	wrote(t, d, 1, block(2), api.OK)
	wrote(t, d, 2, block(3), api.OK)
	wrote(t, d, 1, block(4), api.OK)
	keeps(t, d, zeros(), block(1), zeros())
	reads(t, d, 1, block(4))
	reads(t, d, 2, block(3))
	stands(t, d, 3, false)
	synced(t, d, api.OK)
	keeps(t, d, zeros(), block(4), block(3))
}

// P15.2

func TestWriteTakesWholeBlocksAlone(t *testing.T) {
	d := disk.New(2)
	for n := range 3 * api.Block {
		want := api.ErrArg
		if n == api.Block {
			want = api.OK
		}
		wrote(t, d, 1, row(block(1), block(2), block(3))[:n], want)
	}
	wrote(t, d, 1, nil, api.ErrArg)
	wrote(t, d, 1, []byte{}, api.ErrArg)
	wrote(t, d, 1, make([]byte, 1<<20), api.ErrArg)
	stands(t, d, 1, false)
	reads(t, d, 0, zeros())
	reads(t, d, 1, block(1))
}

func TestWhatWaitsIsRead(t *testing.T) {
	d := disk.New(2)
	for n := range 5 {
		wrote(t, d, 1, block(n), api.OK)
		reads(t, d, 0, zeros())
		reads(t, d, 1, block(n))
		// A read changes nothing: so it answers the same once more.
		reads(t, d, 1, block(n))
		stands(t, d, n+1, false)
	}
	synced(t, d, api.OK)
	reads(t, d, 1, block(4))
}

func TestErrArgAheadOfErrDead(t *testing.T) {
	d := disk.New(2)
	d.Fuse(0)
	synced(t, d, api.ErrDead)
	stands(t, d, 0, true)
	for _, at := range []int{math.MinInt, -1, 2, math.MaxInt} {
		wrote(t, d, at, block(1), api.ErrArg)
		wrote(t, d, at, nil, api.ErrArg)
		unread(t, d, at, api.ErrArg)
	}
	for _, n := range []int{0, 1, api.Block - 1, api.Block + 1} {
		wrote(t, d, 0, make([]byte, n), api.ErrArg)
	}
	for at := range 2 {
		wrote(t, d, at, block(1), api.ErrDead)
		unread(t, d, at, api.ErrDead)
	}
}

func TestErrArgBurnsNoFuse(t *testing.T) {
	d := disk.New(2)
	for _, n := range []int{1, 0} {
		d.Fuse(n)
		for range 3 {
			wrote(t, d, 2, block(1), api.ErrArg)
			wrote(t, d, -1, block(1), api.ErrArg)
			wrote(t, d, 0, block(1)[1:], api.ErrArg)
			wrote(t, d, 0, row(block(1), []byte{0}), api.ErrArg)
		}
		stands(t, d, 0, false)
		if n > 0 {
			synced(t, d, api.OK)
		}
		synced(t, d, api.ErrDead)
		d.Crash(0)
	}
}

func TestReadsBurnNoFuse(t *testing.T) {
	d := disk.New(2)
	wrote(t, d, 1, block(1), api.OK)
	for _, n := range []int{1, 0} {
		d.Fuse(n)
		for range 3 {
			reads(t, d, 0, zeros())
			reads(t, d, 1, block(1))
			unread(t, d, 2, api.ErrArg)
			keeps(t, d, zeros(), zeros())
			stands(t, d, 1, false)
			if d.Blocks() != 2 {
				t.Error("Blocks:", d.Blocks())
			}
		}
	}
	wrote(t, d, 0, block(2), api.ErrDead)
	stands(t, d, 1, true)
}

func TestSyncWithNothingThatWaits(t *testing.T) {
	d := disk.New(1)
	synced(t, d, api.OK)
	keeps(t, d, zeros())
	d.Fuse(2)
	synced(t, d, api.OK)
	synced(t, d, api.OK)
	stands(t, d, 0, false)
	synced(t, d, api.ErrDead)
	stands(t, d, 0, true)
}

func TestDeadDisk(t *testing.T) {
	for _, sync := range []bool{false, true} {
		d := disk.New(2)
		wrote(t, d, 0, block(1), api.OK)
		synced(t, d, api.OK)
		wrote(t, d, 0, block(2), api.OK)
		wrote(t, d, 1, block(3), api.OK)
		d.Fuse(0)
		stands(t, d, 2, false)
		for range 3 {
			if sync {
				synced(t, d, api.ErrDead)
			}
			wrote(t, d, 1, block(4), api.ErrDead)
			synced(t, d, api.ErrDead)
			unread(t, d, 0, api.ErrDead)
			unread(t, d, 1, api.ErrDead)
			stands(t, d, 2, true)
			keeps(t, d, block(1), zeros())
			if d.Blocks() != 2 {
				t.Error("Blocks:", d.Blocks())
			}
		}
		d.Crash(1)
		stands(t, d, 0, false)
		reads(t, d, 0, block(2))
		reads(t, d, 1, zeros())
		keeps(t, d, block(2), zeros())
		wrote(t, d, 1, block(5), api.OK)
		synced(t, d, api.OK)
		keeps(t, d, block(2), block(5))
	}
}

// P15.3

func TestFuse(t *testing.T) {
	for n := range 40 {
		// All that is done is written, or synced, or one by turns.
		for way := range 3 {
			d := disk.New(1)
			d.Fuse(n)
			call := func(i int) api.Errno {
				if way == 0 || way == 2 && i%2 == 0 {
					return d.Write(0, block(i))
				}
				return d.Sync()
			}
			for i := range n {
				if e := call(i); e != api.OK || d.Dead() {
					t.Fatalf("a fuse of %d: the call %d: %d, dead: %t", n, i, e, d.Dead())
				}
			}
			for i := range 3 {
				if e := call(n + i); e != api.ErrDead || !d.Dead() {
					t.Fatalf("a fuse of %d: the call %d: %d, dead: %t", n, n+i, e, d.Dead())
				}
			}
		}
	}
}

func TestNoFuse(t *testing.T) {
	for _, n := range []int{-1, -2, -100, math.MinInt} {
		d := disk.New(1)
		for _, first := range []int{-1, 0, 1, 5} {
			d.Fuse(first)
			d.Fuse(n)
			for i := range 200 {
				wrote(t, d, 0, block(i), api.OK)
				synced(t, d, api.OK)
			}
		}
		stands(t, d, 0, false)
	}
	d := disk.New(1)
	for i := range 1000 {
		wrote(t, d, 0, block(i), api.OK)
		synced(t, d, api.OK)
	}
	d.Fuse(math.MaxInt)
	wrote(t, d, 0, block(1), api.OK)
	stands(t, d, 1, false)
}

func TestFuseSetAnew(t *testing.T) {
	d := disk.New(1)
	for range 50 {
		d.Fuse(1)
		wrote(t, d, 0, block(1), api.OK)
	}
	d.Fuse(3)
	d.Fuse(0)
	wrote(t, d, 0, block(2), api.ErrDead)
	stands(t, d, 50, true)
}

func TestFuseOfADeadDisk(t *testing.T) {
	for _, n := range []int{math.MinInt, -1, 0, 1, 5, math.MaxInt} {
		d := disk.New(1)
		wrote(t, d, 0, block(1), api.OK)
		d.Fuse(0)
		wrote(t, d, 0, block(2), api.ErrDead)
		d.Fuse(n)
		stands(t, d, 1, true)
		wrote(t, d, 0, block(2), api.ErrDead)
		synced(t, d, api.ErrDead)
		unread(t, d, 0, api.ErrDead)
		d.Crash(1)
		for i := range 20 {
			wrote(t, d, 0, block(i), api.OK)
			synced(t, d, api.OK)
		}
	}
}

func TestCrashTakesTheFuse(t *testing.T) {
	for _, n := range []int{0, 1, 5} {
		d := disk.New(1)
		d.Fuse(n)
		d.Crash(0)
		stands(t, d, 0, false)
		for i := range 20 {
			wrote(t, d, 0, block(i), api.OK)
			synced(t, d, api.OK)
		}
	}
}

func TestCrashKeepsABeginning(t *testing.T) {
	// What is written, block by block; the first write of each was synced.
	ats := []int{1, 0, 1, 1, 2, 0}
	for _, dead := range []bool{false, true} {
		for _, keep := range []int{math.MinInt, -7, -1, 0, 1, 2, 3, 4, 5, 6, 7, 100, math.MaxInt} {
			d := disk.New(3)
			want := [][]byte{block(100), zeros(), block(102)}
			wrote(t, d, 0, want[0], api.OK)
			wrote(t, d, 2, want[2], api.OK)
			synced(t, d, api.OK)
			for i, at := range ats {
				wrote(t, d, at, block(i), api.OK)
				if i < keep {
					want[at] = block(i)
				}
			}
			if dead {
				d.Fuse(0)
				synced(t, d, api.ErrDead)
			}
			d.Crash(keep)
			stands(t, d, 0, false)
			keeps(t, d, want...)
			for at, b := range want {
				reads(t, d, at, b)
			}
			// What was kept waits no more: so the next crash takes nothing of it.
			d.Crash(0)
			keeps(t, d, want...)
			d.Crash(100)
			keeps(t, d, want...)
		}
	}
}

func TestCrashWithNothingThatWaits(t *testing.T) {
	for _, keep := range []int{-1, 0, 1, 5} {
		d := disk.New(2)
		d.Crash(keep)
		keeps(t, d, zeros(), zeros())
		wrote(t, d, 1, block(1), api.OK)
		synced(t, d, api.OK)
		d.Crash(keep)
		stands(t, d, 0, false)
		keeps(t, d, zeros(), block(1))
		reads(t, d, 1, block(1))
	}
}

// P15.4

func TestSyncedOutlivesCrashes(t *testing.T) {
	d := disk.New(3)
	wrote(t, d, 0, block(1), api.OK)
	wrote(t, d, 2, block(2), api.OK)
	synced(t, d, api.OK)
	for n := range 10 {
		wrote(t, d, 0, block(10+n), api.OK)
		wrote(t, d, 1, block(30+n), api.OK)
		d.Fuse(n % 3)
		for range n % 3 {
			wrote(t, d, 2, block(50+n), api.OK)
		}
		synced(t, d, api.ErrDead)
		stands(t, d, 2+n%3, true)
		d.Crash(0)
		keeps(t, d, block(1), zeros(), block(2))
	}
	wrote(t, d, 0, block(3), api.OK)
	synced(t, d, api.OK)
	d.Crash(0)
	keeps(t, d, block(3), zeros(), block(2))
}

// Rules that hold everywhere

func TestMemory(t *testing.T) {
	d := disk.New(2)
	given := row(block(1), block(2))
	wrote(t, d, 1, given[:api.Block], api.OK)
	if !bytes.Equal(given, row(block(1), block(2))) {
		t.Error("Write changed what it was given")
	}
	clear(given)
	reads(t, d, 1, block(1))
	synced(t, d, api.OK)
	keeps(t, d, zeros(), block(1))
	for waits := range 2 {
		stands(t, d, waits, false)
		b, _ := d.Read(1)
		other, _ := d.Read(1)
		kept, again := d.Kept(), d.Kept()
		for _, l := range [][]byte{b, kept} {
			clear(l[:cap(l)])
			for range api.Block {
				l = append(l, 9)
			}
		}
		if !bytes.Equal(other, block(1)) || !bytes.Equal(again, row(zeros(), block(1))) {
			t.Error("two answers share memory")
		}
		reads(t, d, 0, zeros())
		reads(t, d, 1, block(1))
		keeps(t, d, zeros(), block(1))
		// The second time round something waits.
		wrote(t, d, 1, block(1), api.OK)
	}
	d.Crash(0)
	keeps(t, d, zeros(), block(1))
}

func TestTwoDisks(t *testing.T) {
	a, b := disk.New(2), disk.New(2)
	wrote(t, a, 0, block(1), api.OK)
	wrote(t, b, 0, block(2), api.OK)
	reads(t, a, 0, block(1))
	synced(t, a, api.OK)
	stands(t, b, 1, false)
	a.Fuse(0)
	wrote(t, b, 1, block(3), api.OK)
	synced(t, a, api.ErrDead)
	stands(t, b, 2, false)
	reads(t, b, 0, block(2))
	b.Crash(1)
	stands(t, a, 0, true)
	keeps(t, a, block(1), zeros())
	keeps(t, b, block(2), zeros())
}

func TestExamples(t *testing.T) {
	d, a, b := disk.New(2), block(1), block(2)
	wrote(t, d, 0, a, api.OK)
	wrote(t, d, 1, b, api.OK)
	d.Crash(1)
	reads(t, d, 0, a)
	reads(t, d, 1, zeros())
	d.Fuse(1)
	wrote(t, d, 0, block(3), api.OK)
	synced(t, d, api.ErrDead)
	unread(t, d, 0, api.ErrDead)
	d.Crash(0)
	reads(t, d, 0, a)
}

// plain is a disk, put down by the chapter's words once more: what is kept, and what waits behind it.
type plain struct {
	kept  [][]byte
	waits []line
	fused bool
	fuse  int
	dead  bool
}

type line struct {
	at int
	b  []byte
}

func newPlain(n int) *plain {
	p := &plain{}
	for range n {
		p.kept = append(p.kept, zeros())
	}
	return p
}

// lives burns the fuse.
func (p *plain) lives() bool {
	p.dead = p.dead || p.fused && p.fuse == 0
	p.fuse--
	return !p.dead
}

func (p *plain) write(at int, b []byte) api.Errno {
	if at < 0 || at >= len(p.kept) || len(b) != api.Block {
		return api.ErrArg
	}
	if !p.lives() {
		return api.ErrDead
	}
	p.waits = append(p.waits, line{at, b})
	return api.OK
}

func (p *plain) sync() api.Errno {
	if !p.lives() {
		return api.ErrDead
	}
	p.keep(len(p.waits))
	return api.OK
}

// keep keeps the first n of what waits; the rest is gone.
func (p *plain) keep(n int) {
	for _, w := range p.waits[:n] {
		p.kept[w.at] = w.b
	}
	p.waits = nil
}

func (p *plain) crash(keep int) {
	p.keep(max(0, min(keep, len(p.waits))))
	p.fused, p.dead = false, false
}

func (p *plain) set(n int) { p.fused, p.fuse = n >= 0, n }

// seen is the block as it was written last.
func (p *plain) seen(at int) []byte {
	b := p.kept[at]
	for _, w := range p.waits {
		if w.at == at {
			b = w.b
		}
	}
	return b
}

// alike asks whether the disk is as the plain one is.
func alike(d *disk.Disk, p *plain) bool {
	ok := d.Blocks() == len(p.kept) && d.Waits() == len(p.waits) && d.Dead() == p.dead && bytes.Equal(d.Kept(), row(p.kept...))
	for at := range p.kept {
		b, e := d.Read(at)
		if p.dead {
			ok = ok && e == api.ErrDead && len(b) == 0
		} else {
			ok = ok && e == api.OK && bytes.Equal(b, p.seen(at))
		}
	}
	return ok
}

// act does one thing with both disks, and tells what it was, and whether both answered alike. What is written hangs on how many things were done.
func act(d *disk.Disk, p *plain, kind, n, done int) (string, bool) {
	switch kind {
	case 0:
		return fmt.Sprintf("Write(%d, %d)", n, done), d.Write(n, block(done)) == p.write(n, block(done))
	case 1:
		return fmt.Sprintf("Write(0, %d bytes)", n), d.Write(0, make([]byte, n)) == p.write(0, make([]byte, n))
	case 2:
		d.Fuse(n)
		p.set(n)
		return fmt.Sprintf("Fuse(%d)", n), true
	case 3:
		d.Crash(n)
		p.crash(n)
		return fmt.Sprintf("Crash(%d)", n), true
	}
	return "Sync", d.Sync() == p.sync()
}

func TestAllShortRows(t *testing.T) {
	acts := [][2]int{{0, 0}, {0, 1}, {0, 2}, {2, -1}, {2, 0}, {2, 1}, {2, 2}, {3, 0}, {3, 1}, {3, 2}, {4, 0}}
	long := 5
	if testing.Short() {
		long = 4
	}
	all := 1
	for range long {
		all *= len(acts)
	}
	for number := range all {
		d, p, told := disk.New(2), newPlain(2), ""
		for i, rest := 0, number; i < long; i, rest = i+1, rest/len(acts) {
			a := acts[rest%len(acts)]
			what, same := act(d, p, a[0], a[1], i+1)
			told += what + " "
			if !same || !alike(d, p) {
				t.Fatalf("%s: not as the chapter says", told)
			}
		}
	}
}

// drawer makes numbers that look like thrown ones, the same each time.
type drawer uint64

func (d *drawer) below(n int) int {
	*d = *d*6364136223846793005 + 1442695040888963407
	return int(*d>>33) % n
}

func TestDrawnRows(t *testing.T) {
	draw := drawer(15)
	for n := 1; n <= 12; n++ {
		for range 40 {
			d, p := disk.New(n), newPlain(n)
			for i := range 150 {
				// Nearly all is written, so that much comes to wait.
				kind, m := 0, draw.below(n+2)-1
				switch draw.below(24) {
				case 0:
					kind, m = 1, api.Block+draw.below(3)-1
				case 1:
					kind, m = 2, draw.below(12)-2
				case 2:
					kind, m = 3, draw.below(12)-2
				case 3, 4:
					kind = 4
				}
				what, same := act(d, p, kind, m, i)
				if !same || !alike(d, p) {
					t.Fatalf("%d blocks, the call %d, %s: not as the chapter says", n, i, what)
				}
			}
		}
	}
}
