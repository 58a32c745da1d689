package bag_test

import (
	"bytes"
	"slices"
	"testing"

	"missive/api"
	"missive/bag"
)

// The chapter's words, put down a second time, and what is asked by them.

// split are a joined text's pieces.
func split(b []byte) (pieces [][]byte, ok bool) {
	if len(b) == 0 || b[0] > 64 {
		return nil, false
	}
	count, b := int(b[0]), b[1:]
	for range count {
		if len(b) < 2 {
			return nil, false
		}
		n := int(b[0])*256 + int(b[1])
		if n > 4096 || len(b) < 2+n {
			return nil, false
		}
		pieces, b = append(pieces, b[2:2+n]), b[2+n:]
	}
	return pieces, len(b) == 0
}

// sized tells whether b is a joined text whose first pieces have these lengths (any has just one of -1), and behind them at most so many that rest takes.
func sized(b []byte, sizes []int, most int, rest func([]byte) bool) bool {
	l, ok := split(b)
	if !ok || len(l) < len(sizes) || len(l) > len(sizes)+most {
		return false
	}
	for i, p := range l {
		if i >= len(sizes) && !rest(p) || i < len(sizes) && sizes[i] >= 0 && len(p) != sizes[i] {
			return false
		}
	}
	return true
}

func isVouch(b []byte) bool { return len(b) == 65 }

func isObject(b []byte) bool { return sized(b, []int{1, 1, 32, 4, 4, 64}, 4, isVouch) }

// isPacket tells whether b is a packet's bytes, and from and to whom.
func isPacket(b []byte) (from, to byte, ok bool) {
	if !sized(b, []int{1, 1, 1, -1, -1, 64}, 0, nil) {
		return 0, 0, false
	}
	l, _ := split(b)
	kind := l[2][0]
	return l[0][0], l[1][0], kind >= 1 && kind <= 4 && sized(l[3], nil, 4, isObject)
}

// corner is where a node stands; false, if it stands nowhere.
func corner(node byte) (x, y int, ok bool) {
	switch node {
	case 0, 16, 17, 18, 19:
		return 0, 0, true
	case 1, 20, 21, 22, 23:
		return 1, 0, true
	case 2, 24, 25, 26, 27:
		return 1, 1, true
	case 3, 28, 29, 30, 31:
		return 0, 1, true
	}
	return 0, 0, false
}

// way is how many ticks a packet is on it.
func way(from, to byte) (int, bool) {
	x, y, ok := corner(from)
	v, w, there := corner(to)
	return 1 + max(x-v, v-x, y-w, w-y), ok && there
}

func laid(l []api.Parcel, b []byte, now uint32) ([]api.Parcel, bool) {
	from, to, ok := isPacket(b)
	if !ok {
		return l, false
	}
	n, ok := way(from, to)
	if !ok || len(l) >= 64 {
		return l, false
	}
	due := now + uint32(n)
	if due < now {
		due = 1<<32 - 1
	}
	return slices.Concat(l, []api.Parcel{{From: from, To: to, Due: due, Bytes: b}}), true
}

func taken(l []api.Parcel, i int) ([]api.Parcel, api.Parcel, bool) {
	for place, p := range l {
		if place == i {
			return slices.Concat(l[:i], l[i+1:]), p, true
		}
	}
	return l, api.Parcel{}, false
}

func doubled(l []api.Parcel, i int) ([]api.Parcel, bool) {
	if _, p, ok := taken(l, i); ok && len(l) < 64 {
		return slices.Concat(l, []api.Parcel{p}), true
	}
	return l, false
}

func ripe(l []api.Parcel, now uint32) int {
	places := []int{}
	for i, p := range l {
		if p.Due <= now {
			places = append(places, i)
		}
	}
	slices.SortStableFunc(places, func(i, j int) int { return int(int64(l[i].Due) - int64(l[j].Due)) })
	return append(places, -1)[0]
}

// What is asked, each time held against these words.

func same(a, b api.Parcel) bool {
	return a.From == b.From && a.To == b.To && a.Due == b.Due && bytes.Equal(a.Bytes, b.Bytes)
}

func sameBag(a, b []api.Parcel) bool { return slices.EqualFunc(a, b, same) }

func lay(t *testing.T, l []api.Parcel, b []byte, now uint32) ([]api.Parcel, bool) {
	t.Helper()
	got, done := bag.Lay(l, b, now)
	if want, ok := laid(l, b, now); !sameBag(got, want) || done != ok {
		t.Fatalf("Lay of %d bytes on %d parcels at %d: %v %t, want %v %t", len(b), len(l), now, got, done, want, ok)
	}
	return got, done
}

func take(t *testing.T, l []api.Parcel, i int) ([]api.Parcel, api.Parcel, bool) {
	t.Helper()
	got, p, done := bag.Take(l, i)
	if want, x, ok := taken(l, i); !sameBag(got, want) || !same(p, x) || done != ok {
		t.Fatalf("Take of the place %d of %d: %v %v %t, want %v %v %t", i, len(l), got, p, done, want, x, ok)
	}
	return got, p, done
}

func double(t *testing.T, l []api.Parcel, i int) ([]api.Parcel, bool) {
	t.Helper()
	got, done := bag.Double(l, i)
	if want, ok := doubled(l, i); !sameBag(got, want) || done != ok {
		t.Fatalf("Double of the place %d of %d: %v %t, want %v %t", i, len(l), got, done, want, ok)
	}
	return got, done
}

func ripest(t *testing.T, l []api.Parcel, now uint32) int {
	t.Helper()
	got := bag.Ripe(l, now)
	if want := ripe(l, now); got != want {
		t.Fatalf("Ripe of %v at %d: %d, want %d", dues(l), now, got, want)
	}
	return got
}

// dues are the ticks at which the parcels are due.
func dues(l []api.Parcel) (d []uint32) {
	for _, p := range l {
		d = append(d, p.Due)
	}
	return d
}
