package store_test

import (
	"bytes"
	"fmt"
	"math"
	"slices"
	"strings"
	"testing"

	"missive/api"
)

// right makes a header's S fit what stands ahead of it.
func right(h []byte) []byte { return filled(append(h[:20:20], check(h[:20])...)) }

// with is bytes of which one is another one.
func with(b []byte, at int, to byte) []byte {
	b = slices.Clone(b)
	b[at] = to
	return b
}

// P16.1, of disks on which something is spoilt

func TestSpoiltHeaders(t *testing.T) {
	good := head(5, 0, 1)
	for what, h := range map[string][]byte{
		"one byte that isn't zero":         with(make([]byte, api.Block), 0, 1),
		"one behind where a header stands": with(make([]byte, api.Block), 24, 1),
		"the last byte":                    with(make([]byte, api.Block), api.Block-1, 1),
		"all ones":                         bytes.Repeat([]byte{255}, api.Block),
		"another word, S fits":             right(with(good, 0, 'H')),
		"another word, S is the old one":   with(with(good, 0, 'h'+2), 1, 'e'-1),
		"another last letter, S fits":      right(with(good, 3, 'D')),
		"no word":                          right(with(with(with(with(good, 0, 0), 1, 0), 2, 0), 3, 0)),
		"no S":                             append(good[:20:20], make([]byte, api.Block-20)...),
		"S with its least byte first":      append(append(good[:20:20], check(good[:20])[3], check(good[:20])[2], 0, 0), make([]byte, 40)...),
		"S and the modulus":                append(append(good[:20:20], number(2147483647+1077, 4)...), make([]byte, 40)...),
		"the end 0":                        head(5, 0, 0),
		"the end 0, of a count":            head(5, 1, 0),
		"an end behind the half":           head(5, 0, 5),
		"an end behind the disk":           head(5, 0, 9),
		"an end far behind":                head(5, 0, 1<<31),
		"the greatest end":                 head(5, 0, math.MaxUint32),
		"a header a byte behind":           append([]byte{0}, good[:63]...),
	} {
		zeros := make([]byte, api.Block)
		for _, other := range [][]byte{zeros, head(1, 0, 1), head(9, 0, 1), h} {
			refuses(t, what+" in half 0", laid(t, 8, part{0, h}, part{4, other}), api.ErrSpoilt)
			refuses(t, what+" in half 1", laid(t, 8, part{0, other}, part{4, h}), api.ErrSpoilt)
		}
		refuses(t, what+" in half 1 of an odd disk", laid(t, 9, part{4, h}), api.ErrSpoilt)
	}
	if !bytes.Equal(check(good[:20]), number(1077, 4)) {
		t.Error("S isn't what stands above")
	}
}

func TestAHeaderStandsWhereAHalfBegins(t *testing.T) {
	// A disk of nine blocks has its second half from block 4 on: in the others nobody looks for a header.
	for at := 1; at < 9; at++ {
		d := laid(t, 9, part{at, bytes.Repeat([]byte{7}, api.Block)})
		if at == 4 {
			refuses(t, "a half's first block", d, api.ErrSpoilt)
		} else {
			has(t, opens(t, d), 1)
		}
	}
}

func TestTheEndOfAHeader(t *testing.T) {
	for h := uint64(2); h < 8; h++ {
		for count := range h {
			for end := range h + 2 {
				var all []byte
				for k := range h - 1 {
					all = append(all, record(3, k+1, payload(put(fmt.Sprint(k), "v")))...)
				}
				for half := range uint64(2) {
					d := laid(t, int(2*h), part{int(half * h), head(3, count, end)}, part{int(half*h) + 1, all})
					if end == count+1 && end <= h {
						if s := opens(t, d); len(s.All()) != int(count) {
							t.Errorf("%d records: %v", count, s.All())
						}
					} else {
						refuses(t, fmt.Sprintf("%d records up to %d of %d blocks", count, end, h), d, api.ErrSpoilt)
					}
				}
			}
		}
	}
}

func TestTheCountOfAHeader(t *testing.T) {
	all := slices.Concat(record(3, 1, payload(put("a", "v"))), record(3, 2, payload(put("b", "v"))), record(3, 3, payload(put("c", "v"))))
	for _, count := range []uint64{0, 1, 2, 4, 5, 255, 256, 258, 259, 1 << 16, 1<<16 + 3, 1 << 24, 1<<24 + 3, 1 << 31, 1<<31 + 3, math.MaxUint32} {
		for half := range 2 {
			d := laid(t, 8, part{4 * half, head(3, count, 4)}, part{4*half + 1, all})
			refuses(t, fmt.Sprint(count, " records instead of 3"), d, api.ErrSpoilt)
		}
	}
}

func TestHeadersOfOneEpoch(t *testing.T) {
	for _, epoch := range []uint64{0, 1, 2, 1 << 32, math.MaxUint64} {
		r := record(epoch, 1, payload(put("a", "v")))
		refuses(t, "two empty ones", laid(t, 8, part{0, head(epoch, 0, 1)}, part{4, head(epoch, 0, 1)}), api.ErrSpoilt)
		refuses(t, "two alike", laid(t, 8, part{0, head(epoch, 1, 2)}, part{1, r}, part{4, head(epoch, 1, 2)}, part{5, r}), api.ErrSpoilt)
		refuses(t, "an empty one ahead", laid(t, 8, part{0, head(epoch, 0, 1)}, part{4, head(epoch, 1, 2)}, part{5, r}), api.ErrSpoilt)
		refuses(t, "an empty one behind", laid(t, 8, part{0, head(epoch, 1, 2)}, part{1, r}, part{4, head(epoch, 0, 1)}), api.ErrSpoilt)
	}
}

// alone asks what Open makes of a record alone, of any payload.
func alone(t *testing.T, what string, payload []byte, want api.Errno, l ...api.Change) {
	t.Helper()
	r := record(3, 1, payload)
	for half := range 2 {
		d := laid(t, 300, part{150 * half, head(3, 1, uint64(1+len(r)/api.Block))}, part{150*half + 1, r})
		if want != api.OK {
			refuses(t, what, d, want)
		} else {
			has(t, opens(t, d), 3, l...)
		}
	}
}

func TestPayloads(t *testing.T) {
	name, value := strings.Repeat("n", 32), strings.Repeat("v", 4000)
	one := func(parts ...string) []byte {
		var l [][]byte
		for _, p := range parts {
			l = append(l, []byte(p))
		}
		return joined(l...)
	}
	alone(t, "no changes", joined(), api.OK)
	alone(t, "the longest of all", joined(one(name, value)), api.OK, put(name, value))
	alone(t, "an empty value", joined(one("a", "")), api.OK, put("a", ""))
	alone(t, "gone that wasn't there", joined(one(name)), api.OK)
	alone(t, "64 changes", joined(slices.Repeat([][]byte{one("a", "v")}, 64)...), api.OK, put("a", "v"))
	for what, p := range map[string][]byte{
		"no byte":                    nil,
		"zeros":                      make([]byte, 20),
		"a byte behind":              append(joined(one("a", "v")), 0),
		"a byte too few":             joined(one("a", "v"))[:9],
		"a byte behind no changes":   {0, 0},
		"65 changes":                 joined(slices.Repeat([][]byte{one("a", "v")}, 65)...),
		"an empty change":            joined(nil),
		"a change of nothing":        joined(one()),
		"a change of three":          joined(one("a", "v", "w")),
		"a change of three, none":    joined(one("a", "v", "")),
		"a change that isn't joined": joined([]byte("a")),
		"a change with a byte more":  joined(append(one("a", "v"), 0)),
		"a change with a byte less":  joined(one("a", "v")[:6]),
		"no name":                    joined(one("", "v")),
		"no name, gone":              joined(one("")),
		"a name of 33 bytes":         joined(one(name+"n", "v")),
		"a name of 33 bytes, gone":   joined(one(name + "n")),
		"a value of 4001 bytes":      joined(one("a", value+"v")),
		"a change of 4097 bytes":     joined(one("a", value+strings.Repeat("v", 91))),
		"the second without a name":  joined(one("a", "v"), one("", "v")),
		"the last of three":          joined(one("a", "v"), one("b"), one("c", value+"v")),
		"the first of three":         joined(one("a", "v", "w"), one("b"), one("c")),
	} {
		alone(t, what, p, api.ErrSpoilt)
	}
}

func TestRecordsThatDontFit(t *testing.T) {
	p := payload(put("a", "v"))
	good := record(3, 1, p)
	long := record(3, 1, payload(put("a", strings.Repeat("v", 150))))
	for _, c := range []struct {
		what       string
		count, end uint64
		b          []byte
	}{
		{"another epoch", 1, 2, record(2, 1, p)},
		{"the number 0", 1, 2, record(3, 0, p)},
		{"the number 2", 1, 2, record(3, 2, p)},
		{"twice the number 1", 2, 3, append(slices.Clone(good), good...)},
		{"the numbers 2 and 1", 2, 3, append(record(3, 2, p), good...)},
		{"the numbers 1 and 3", 2, 3, append(slices.Clone(good), record(3, 3, p)...)},
		{"zeros", 1, 2, make([]byte, api.Block)},
		{"zeros behind a record", 2, 3, append(slices.Clone(good), make([]byte, api.Block)...)},
		{"one that ends ahead of the end", 1, 3, append(slices.Clone(good), record(3, 2, p)...)},
		{"one that ends behind the end", 1, 2, long},
		{"one that ends two behind the end", 1, 3, long},
		{"the last one ends behind the end", 2, 3, append(slices.Clone(good), record(3, 2, payload(put("a", strings.Repeat("v", 100))))...)},
		{"a length a block behind the end", 1, 2, with(good, 3, 57)},
		{"a length behind the half", 1, 4, with(good, 2, 1)},
		{"a length behind the disk", 1, 4, with(good, 2, 9)},
		{"a length far behind", 1, 4, with(good, 1, 255)},
		{"a length with its first bit", 1, 4, with(good, 0, 128)},
		{"the greatest length", 1, 4, slices.Concat([]byte{255, 255, 255, 255}, good[4:])},
		{"a length near to the greatest", 1, 4, slices.Concat([]byte{255, 255, 255, 192}, good[4:])},
		{"a length one less", 1, 2, with(good, 3, 9)},
		{"a length one more", 1, 2, with(good, 3, 11)},
		{"S one more", 1, 2, with(good, 7, good[7]+1)},
		{"S and the modulus", 1, 2, slices.Concat(good[:4], number(2147483647+0x1664, 4), good[8:])},
		{"a right record a block behind", 1, 3, append(make([]byte, api.Block), good...)},
	} {
		for half := range 2 {
			d := laid(t, 8, part{4 * half, head(3, c.count, c.end)}, part{4*half + 1, c.b})
			refuses(t, c.what, d, api.ErrSpoilt)
		}
	}
	// What has been spoilt here is right as it was.
	has(t, opens(t, laid(t, 8, part{0, head(3, 1, 2)}, part{1, good})), 3, put("a", "v"))
	has(t, opens(t, laid(t, 8, part{4, head(3, 1, 4)}, part{5, long})), 3, put("a", strings.Repeat("v", 150)))
	if !bytes.Equal(good[4:8], number(0x1664, 4)) {
		t.Error("S isn't what stands above")
	}
}

func TestTooManyNames(t *testing.T) {
	full := payload(names(64)...)
	for _, c := range []struct {
		what string
		want api.Errno
		rows [][]byte
	}{
		{"a 65th name", api.ErrSpoilt, [][]byte{full, payload(put("new", "v"))}},
		{"a 65th name, that is gone behind it", api.ErrSpoilt, [][]byte{full, payload(put("new", "v")), payload(gone("new"))}},
		{"a 65th name, another one gone behind it", api.ErrSpoilt, [][]byte{full, payload(put("new", "v")), payload(gone("n00"))}},
		{"a 65th name, and gone at once", api.OK, [][]byte{full, payload(put("new", "v"), gone("new"))}},
		{"a 64th name, over and over", api.OK, [][]byte{full, payload(names(64)[9:]...), full, payload(gone("new"))}},
		{"one gone ahead of another one", api.OK, [][]byte{full, payload(gone("n63")), payload(put("n63", "v"))}},
	} {
		var all []byte
		for i, p := range c.rows {
			all = append(all, record(3, uint64(i+1), p)...)
		}
		d := laid(t, 200, part{100, head(3, uint64(len(c.rows)), uint64(1+len(all)/api.Block))}, part{101, all})
		if c.want != api.OK {
			refuses(t, c.what, d, c.want)
		} else {
			has(t, opens(t, d), 3, names(64)...)
		}
	}
}

// P16.5

func TestAnotherByte(t *testing.T) {
	// Two halves with headers, of which the second one counts, with records of one block, of three and of two.
	old := record(8, 1, payload(put("old", "v")))
	rows := [][]byte{payload(put("a", "x")), payload(put("b", strings.Repeat("y", 120)), gone("a"), put("c", "")), payload(names(5)...)}
	var counts []byte
	spots := []int{}
	block := func(at, from, size int) {
		for i := range size {
			spots = append(spots, at*api.Block+from+i)
		}
	}
	block(0, 0, 24)
	block(10, 0, 24)
	for k, p := range rows {
		block(11+len(counts)/api.Block, 4, 4+len(p))
		counts = append(counts, record(9, uint64(k+1), p)...)
	}
	whole := slices.Concat(head(8, 1, 2), old, make([]byte, 8*api.Block), head(9, 3, uint64(1+len(counts)/api.Block)), counts)
	d := laid(t, 20, part{0, whole})
	opens(t, d)
	for _, at := range spots {
		b := slices.Clone(whole[at/api.Block*api.Block:][:api.Block])
		for to := range 256 {
			if byte(to) == whole[at] || testing.Short() && to%16 != 0 {
				continue
			}
			d.Write(at/api.Block, with(b, at%api.Block, byte(to)))
			refuses(t, fmt.Sprintf("the byte %d is %d instead of %d", at, to, whole[at]), d, api.ErrSpoilt)
		}
		d.Write(at/api.Block, b)
		if t.Failed() {
			t.FailNow()
		}
	}
	opens(t, d)
}

func TestAnotherByteOfALongRecord(t *testing.T) {
	d := laid(t, api.MaxBlocks)
	s, m := opens(t, d), begun(api.MaxBlocks)
	var l []api.Change
	for i := range 32 {
		l = append(l, put(fmt.Sprint("n", i), strings.Repeat("\xff", 4000)))
	}
	commits(t, s, m.commit(l), l...)
	is(t, s, d, m)
	size := len(payload(l...))
	for at := api.Block + 8; at < api.Block+8+size; at += 401 {
		b := slices.Clone(m.disk[at/api.Block*api.Block:][:api.Block])
		for _, to := range []byte{0, 1, 127, 128, 254} {
			if to != m.disk[at] {
				d.Write(at/api.Block, with(b, at%api.Block, to))
				refuses(t, fmt.Sprintf("the byte %d is %d", at, to), d, api.ErrSpoilt)
			}
		}
		d.Write(at/api.Block, b)
	}
	d.Sync()
	is(t, opens(t, d), d, m)
}
