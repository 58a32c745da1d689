package fedq_test

import (
	"bytes"
	"fmt"
	"math"
	"reflect"
	"slices"
	"strings"
	"testing"

	"missive/api"
	"missive/disk"
	"missive/fedq"
	"missive/store"
)

// P21.5

// keeping asks for a queue's rows, and for it of the rows.
func keeping(t *testing.T, name string, q api.Queue) []api.Change {
	t.Helper()
	l, ok := rows(t, name, q)
	if !ok {
		t.Fatalf("Rows(%q, %s): false", name, brief(q))
	}
	if p, ok := load(t, name, l); !ok || !reflect.DeepEqual(stood(p), stood(q)) {
		t.Fatalf("Load of Rows(%q, %s): %s %t", name, brief(q), brief(p), ok)
	}
	return l
}

// refusesRows asks that a queue has no rows.
func refusesRows(t *testing.T, what, name string, q api.Queue) {
	t.Helper()
	if l, ok := rows(t, name, q); ok || len(l) != 0 {
		t.Fatalf("Rows of %s: %v %t", what, l, ok)
	}
}

// refusesLoad asks that rows are no queue's.
func refusesLoad(t *testing.T, what, name string, l []api.Change) {
	t.Helper()
	if q, ok := load(t, name, l); ok || !same(q, api.Queue{}) {
		t.Fatalf("Load of %s, %v: %s %t", what, l, brief(q), ok)
	}
}

// waiting is a queue of so many items, each of another kind than the one ahead.
func waiting(n int) api.Queue {
	d := drawer(40 + n)
	q := api.Queue{Sent: min(n, 3), Id: 0x0102, Wait: 3, Back: 4}
	for i := range n {
		q.Items = append(q.Items, d.item(byte(1+i%6)))
	}
	return q
}

func TestRows(t *testing.T) {
	keeping(t, "q", api.Queue{})
	keeping(t, "q", api.Queue{Items: []api.Item{}})
	for n := range 9 {
		q := waiting(n)
		l := keeping(t, "q0", q)
		if want := 1 + (n+3)/4; len(l) != want {
			t.Errorf("%d items have %d rows, want %d", n, len(l), want)
		}
		for _, sent := range sents() {
			q.Sent = sent
			if sent >= 0 && sent <= min(n, 4) {
				keeping(t, "q0", q)
			} else {
				refusesRows(t, fmt.Sprint(n, " items, Sent ", sent), "q0", q)
			}
		}
	}
	for _, n := range []uint16{0, 1, 255, 256, 257, 32768, 65534, 65535} {
		keeping(t, "in", api.Queue{Id: n})
		keeping(t, "in", api.Queue{Items: asks(0, 5), Id: n, Wait: byte(n), Back: byte(n + 1)})
	}
	for n := range 256 {
		keeping(t, "", api.Queue{Wait: byte(n)})
		keeping(t, "", api.Queue{Back: byte(n)})
	}
	d := drawer(7)
	for i := range 300 {
		keeping(t, string(d.text(d.below(32))), d.queue(i%9))
	}
}

// The values of some, by hand.
func TestRowsByHand(t *testing.T) {
	is := func(name string, q api.Queue, want ...api.Change) {
		t.Helper()
		if l := keeping(t, name, q); !sameRows(l, want) {
			t.Errorf("Rows(%q, %s): %v, want %v", name, brief(q), l, want)
		}
	}
	head := func(id, more, sent, wait, back, count byte) []byte {
		return []byte{5, 0, 2, id, more, 0, 1, sent, 0, 1, wait, 0, 1, back, 0, 1, count}
	}
	text := func(n byte) []byte { return []byte{0, 10, 3, 0, 1, 2, 0, 1, 0, 0, 1, n} }
	is("", api.Queue{}, api.Change{Name: "h", Value: head(0, 0, 0, 0, 0, 0)})
	is("q3", api.Queue{Id: 0x1234, Wait: 5, Back: 6}, api.Change{Name: "q3h", Value: head(0x12, 0x34, 0, 5, 6, 0)})
	is("in", api.Queue{Items: asks(7, 1), Sent: 1, Id: 1, Wait: 2, Back: 2},
		api.Change{Name: "inh", Value: head(0, 1, 1, 2, 2, 1)}, api.Change{Name: "in0", Value: slices.Concat([]byte{1}, text(7))})
	four := slices.Concat([]byte{4}, text(1), text(2), text(3), text(4))
	is("q0", api.Queue{Items: asks(1, 4), Sent: 4, Id: 255, Wait: 16, Back: 16},
		api.Change{Name: "q0h", Value: head(0, 255, 4, 16, 16, 4)}, api.Change{Name: "q00", Value: four})
	is("q0", api.Queue{Items: asks(1, 6), Id: 256, Back: 1},
		api.Change{Name: "q0h", Value: head(1, 0, 0, 0, 1, 6)}, api.Change{Name: "q00", Value: four}, api.Change{Name: "q01", Value: slices.Concat([]byte{2}, text(5), text(6))})
	is("\xff\x00", api.Queue{Items: []api.Item{{Kind: 4, Asker: 8, Peer: 9}}},
		api.Change{Name: "\xff\x00h", Value: head(0, 0, 0, 0, 0, 1)}, api.Change{Name: "\xff\x000", Value: []byte{1, 0, 10, 3, 0, 1, 4, 0, 1, 8, 0, 1, 9}})
}

func TestRowsOfWhatMayNotBe(t *testing.T) {
	for _, n := range []int{9, 10, 12, 13, 64, 65, 255, 256, 257, 264, 1000} {
		refusesRows(t, fmt.Sprint(n, " items"), "q0", api.Queue{Items: asks(0, n)})
	}
	for what, x := range unwritable() {
		for n := 1; n < 9; n++ {
			for at := range n {
				refusesRows(t, what, "q0", api.Queue{Items: with(asks(0, n), at, x)})
			}
		}
	}
	for at := range 8 {
		q := api.Queue{Items: asks(0, 8)}
		q.Items[at] = bodied(697)
		keeping(t, "q0", q)
		for _, body := range []int{698, 699, 800, 3899} {
			q.Items[at] = bodied(body)
			refusesRows(t, "an item that is too long", "q0", q)
		}
	}
	// Eight of the longest ones have still rows, that a store takes.
	q := api.Queue{Items: slices.Repeat([]api.Item{bodied(697)}, 8), Sent: 4}
	for _, r := range keeping(t, strings.Repeat("n", 31), q) {
		if len(r.Name) > api.MaxName || len(r.Value) > api.MaxValue {
			t.Errorf("the row %q has %d bytes", r.Name, len(r.Value))
		}
	}
}

func TestNames(t *testing.T) {
	for n := range 100 {
		name := strings.Repeat("x", n)
		q := waiting(n % 9)
		if n < 32 {
			keeping(t, name, q)
			continue
		}
		refusesRows(t, "a long name", name, q)
		l, _ := rowsOf("", q)
		for i := range l {
			l[i].Name = name + l[i].Name
		}
		refusesLoad(t, "a long name", name, l)
	}
	refusesRows(t, "a very long name", strings.Repeat("x", 100000), api.Queue{})
	refusesLoad(t, "a very long name", strings.Repeat("x", 100000), nil)
}

// A name says only of whose rows one speaks; what has another name is another's.
func TestLoadAmongOthers(t *testing.T) {
	d := drawer(8)
	names := []string{"", "q", "q0", "q00", "q0h", "h", "0", "1", "q1", "qh", "in", "\xff", "é"}
	for i := range 60 {
		var all []api.Change
		queues := map[string]api.Queue{}
		for j, name := range names {
			if j%3 == i%3 { // not all: the rows of some are named as those of others are
				queues[name] = d.queue((i + j) % 9)
				l, _ := rowsOf(name, queues[name])
				all = append(all, l...)
			}
		}
		seen := map[string]int{}
		for _, r := range all {
			seen[r.Name]++
		}
		for range 3 {
			for k := range all {
				other := d.below(k + 1)
				all[k], all[other] = all[other], all[k]
			}
			for name, q := range queues {
				if got, ok := load(t, name, all); apart(seen, name, q) && !(ok && same(got, q)) {
					t.Fatalf("Load(%q) among others: %s %t, want %s", name, brief(got), ok, brief(q))
				}
			}
			load(t, "not there", all)
		}
	}
	l, _ := rowsOf("q0", waiting(6))
	for _, other := range []string{"q02", "q0H", "q0", "q0h0", "q00h", "Q0h", "q0h\x00", "", "xq0h", "q1h"} {
		for at := range 4 {
			m := slices.Insert(slices.Clone(l), at, api.Change{Name: other, Value: []byte("other"), Gone: at%2 == 0})
			if q, ok := load(t, "q0", m); !ok || !same(q, waiting(6)) {
				t.Fatalf("Load beside the row %q: %s %t", other, brief(q), ok)
			}
		}
	}
}

// apart tells whether no other queue's rows have names that this one's have, or would have, if it had more items.
func apart(seen map[string]int, name string, q api.Queue) bool {
	return seen[name+"h"] == 1 && seen[name+"0"] == min(1, len(q.Items)) && seen[name+"1"] == min(1, len(q.Items)/5)
}

// In whatever order they stand; of two of one name the first counts.
func TestLoadOfOrders(t *testing.T) {
	for _, n := range []int{0, 1, 4, 5, 8} {
		q := waiting(n)
		l, _ := rowsOf("q0", q)
		for _, order := range orders(len(l)) {
			var m []api.Change
			for _, i := range order {
				m = append(m, l[i])
			}
			if got, ok := load(t, "q0", m); !ok || !same(got, q) {
				t.Fatalf("Load of %d items in the order %v: %s %t", n, order, brief(got), ok)
			}
		}
		other, _ := rowsOf("q0", waiting(7))
		for _, spoilt := range [][]api.Change{l, other, nameds("h"), nameds("0"), nameds("1"), gones(l)} {
			for _, r := range spoilt {
				if slices.ContainsFunc(l, func(s api.Change) bool { return s.Name == r.Name }) {
					if got, ok := load(t, "q0", append(slices.Clone(l), r)); !ok || !same(got, q) {
						t.Fatalf("Load of %d items with a second row %q: %s %t", n, r.Name, brief(got), ok)
					}
				}
				load(t, "q0", append([]api.Change{r}, l...))
			}
		}
		first := append([]api.Change{{Name: "q0h", Value: []byte{5}}}, l...)
		refusesLoad(t, "a first row that isn't right", "q0", first)
	}
}

// orders are all orders of so many.
func orders(n int) [][]int {
	if n == 0 {
		return [][]int{nil}
	}
	var all [][]int
	for _, order := range orders(n - 1) {
		for at := range n {
			all = append(all, slices.Insert(slices.Clone(order), at, n-1))
		}
	}
	return all
}

// nameds are rows of that end, of which none is a queue's.
func nameds(end string) (l []api.Change) {
	for _, b := range [][]byte{nil, {0}, {1}, []byte("other"), make([]byte, 17), make([]byte, 4000)} {
		l = append(l, api.Change{Name: "q0" + end, Value: b})
	}
	return l
}

// gones are the rows as such that are gone.
func gones(l []api.Change) (m []api.Change) {
	for _, r := range l {
		m = append(m, api.Change{Name: r.Name, Gone: true}, api.Change{Name: r.Name, Value: r.Value, Gone: true})
	}
	return m
}

// Each row less, more, gone, or another's.
func TestLoadOfOtherRows(t *testing.T) {
	for n := range 9 {
		l, _ := rowsOf("q0", waiting(n))
		for at, r := range l {
			if at == 0 || at == len(l)-1 || n > 4 {
				refusesLoad(t, "a row less", "q0", slices.Delete(slices.Clone(l), at, at+1))
			}
			for _, other := range gones([]api.Change{r}) {
				refusesLoad(t, "a row that is gone", "q0", with(l, at, other))
			}
			for m := range 9 {
				others, _ := rowsOf("q0", waiting(m))
				for _, other := range others {
					load(t, "q0", with(l, at, api.Change{Name: r.Name, Value: other.Value}))
					load(t, "q0", with(l, at, other))
				}
			}
			for _, other := range nameds(strings.TrimPrefix(r.Name, "q0")) {
				refusesLoad(t, "a row of other bytes", "q0", with(l, at, other))
			}
		}
		for _, end := range []string{"0", "1"} {
			for _, other := range append(nameds(end), api.Change{Name: "q0" + end, Gone: true}) {
				if !slices.ContainsFunc(l, func(r api.Change) bool { return r.Name == other.Name }) {
					refusesLoad(t, "a row more", "q0", append(slices.Clone(l), other))
				}
			}
		}
		refusesLoad(t, "another's rows", "q1", l)
		refusesLoad(t, "another's rows", "", l)
		refusesLoad(t, "another's rows", "q", l)
	}
	refusesLoad(t, "no rows", "q0", nil)
	refusesLoad(t, "no rows", "", []api.Change{})
	refusesLoad(t, "zero rows", "", make([]api.Change, 3))
}

// Each of a queue's values under each of the names.
func TestLoadOfOtherNames(t *testing.T) {
	ends := []string{"h", "0", "1", "other"}
	for n := range 9 {
		l, _ := rowsOf("q0", waiting(n))
		for code := range 64 {
			var m []api.Change
			for i, r := range l {
				m = append(m, api.Change{Name: "q0" + ends[code>>(2*i)&3], Value: r.Value})
			}
			load(t, "q0", m)
			if m[0].Name != "q0h" {
				refusesLoad(t, "a head of another name", "q0", m)
			}
		}
	}
	for _, end := range ends[1:] {
		l, _ := rowsOf("q0", api.Queue{Id: 5})
		l[0].Name = "q0" + end
		refusesLoad(t, "what is known of it as items", "q0", l)
	}
}

// heads are the bytes of what is known of a queue, of which one is another one.
func TestLoadOfOtherHeads(t *testing.T) {
	for n := range 9 {
		q := waiting(n)
		l, _ := rowsOf("q0", q)
		put := func(b []byte) {
			t.Helper()
			load(t, "q0", with(l, 0, api.Change{Name: "q0h", Value: b}))
		}
		pieces, _ := split(l[0].Value)
		for at, p := range pieces {
			for _, size := range []int{0, 1, 2, 3, 4, 7, 8, 9, 32, 4096} {
				put(joined(with(pieces, at, make([]byte, size))...))
				put(joined(with(pieces, at, append(make([]byte, size), p...))...))
				put(joined(with(pieces, at, append(slices.Clone(p), make([]byte, size)...))...))
				put(joined(with(pieces, at, bytes.Repeat([]byte{255}, size))...))
			}
			for k := range 256 {
				put(joined(with(pieces, at, append([]byte{byte(k)}, p[1:]...))...))
				put(joined(with(pieces, at, append(slices.Clone(p[:len(p)-1]), byte(k)))...))
			}
			put(joined(slices.Delete(slices.Clone(pieces), at, at+1)...))
			put(joined(slices.Insert(slices.Clone(pieces), at, p)...))
			put(joined(pieces[:at]...))
		}
		put(joined(append(slices.Clone(pieces), nil)...))
		put(joined(append(slices.Clone(pieces), []byte{0})...))
		put(append(slices.Clone(l[0].Value), 0))
		put(l[0].Value[1:])
		for sent := range 256 {
			pieces[1] = []byte{byte(sent)}
			b := joined(pieces...)
			if _, ok := load(t, "q0", with(l, 0, api.Change{Name: "q0h", Value: b})); ok != (sent <= min(n, 4)) {
				t.Fatalf("Load of %d items, Sent %d: %t", n, sent, ok)
			}
		}
	}
}

// batches are the rows of some items, in bytes of which one is another one.
func TestLoadOfOtherItems(t *testing.T) {
	d := drawer(9)
	for _, n := range []int{1, 2, 4, 5, 8} {
		q := waiting(n)
		l, _ := rowsOf("q0", q)
		for at := 1; at < len(l); at++ {
			put := func(b []byte) bool {
				t.Helper()
				_, ok := load(t, "q0", with(l, at, api.Change{Name: l[at].Name, Value: b}))
				return ok
			}
			b := l[at].Value
			for i := range b {
				if n < 5 || i < 40 || d.below(9) == 0 {
					put(with(b, i, b[i]+1))
					put(with(b, i, b[i]^128))
					put(b[:i])
				}
			}
			pieces, _ := split(b)
			for i, p := range pieces {
				for kind := byte(1); kind <= 6; kind++ {
					x, _ := itemBytes(d.item(kind))
					if !put(joined(with(pieces, i, x)...)) {
						t.Fatalf("Load of another item of the kind %d: false", kind)
					}
				}
				for _, other := range [][]byte{nil, {0}, {1}, p[1:], p[:len(p)-1], append(slices.Clone(p), 0), joined(p), joined(), {1, 0, 1, 7}, {1, 0, 1, 2}, {3, 0, 1, 0, 0, 1, 1, 0, 1, 1}} {
					if put(joined(with(pieces, i, other)...)) {
						t.Fatalf("Load of an item of the bytes %x: true", other)
					}
				}
				for _, c := range []struct {
					body int
					want bool
				}{{697, true}, {698, false}, {3800, false}} {
					x, _ := itemBytes(bodied(c.body))
					if put(joined(with(pieces, i, x)...)) != c.want {
						t.Fatalf("Load of an item with a body of %d", c.body)
					}
				}
				put(joined(slices.Delete(slices.Clone(pieces), i, i+1)...))
				put(joined(slices.Insert(slices.Clone(pieces), i, p)...))
			}
			put(joined())
			put(joined(slices.Repeat(pieces, 9)[:min(9*len(pieces), 64)]...))
			put(joined(make([][]byte, 64)...))
		}
	}
}

// How the items stand in two rows has one way.
func TestLoadOfOtherBatches(t *testing.T) {
	for n := range 13 {
		var texts [][]byte
		for _, x := range asks(0, n) {
			b, _ := itemBytes(x)
			texts = append(texts, b)
		}
		for said := range 14 {
			head := api.Change{Name: "h", Value: joined(two(1), []byte{0}, []byte{0}, []byte{0}, []byte{byte(said)})}
			for cut := range n + 1 {
				one, other := api.Change{Name: "0", Value: joined(texts[:cut]...)}, api.Change{Name: "1", Value: joined(texts[cut:]...)}
				for i, l := range [][]api.Change{{head}, {head, one}, {head, other}, {head, one, other}, {other, one, head}} {
					_, ok := load(t, "", l)
					want := i == 0 && said == 0 ||
						i == 1 && said == cut && cut > 0 && cut <= 4 ||
						i > 2 && said == n && cut == 4 && n > 4 && n <= 8
					if ok != want {
						t.Fatalf("Load of %d items, said %d, cut at %d, the form %d: %t", n, said, cut, i, ok)
					}
				}
			}
		}
	}
}

// Unlike queues have unlike rows: each field by itself.
func TestEachFieldIsKept(t *testing.T) {
	seen := map[string]string{}
	put := func(what string, q api.Queue) {
		t.Helper()
		b := fmt.Sprint(keeping(t, "q", q))
		if seen[b] != "" {
			t.Errorf("%s is kept as %s", what, seen[b])
		}
		seen[b] = what
	}
	put("the whole", waiting(8))
	for what, set := range map[string]func(q *api.Queue){
		"Sent":         func(q *api.Queue) { q.Sent++ },
		"none Sent":    func(q *api.Queue) { q.Sent = 0 },
		"Id":           func(q *api.Queue) { q.Id++ },
		"Id's first":   func(q *api.Queue) { q.Id += 256 },
		"Wait":         func(q *api.Queue) { q.Wait++ },
		"Back":         func(q *api.Queue) { q.Back++ },
		"both round":   func(q *api.Queue) { q.Wait, q.Back = q.Back, q.Wait },
		"less":         func(q *api.Queue) { q.Items = q.Items[:7] },
		"not the 1st":  func(q *api.Queue) { q.Items = q.Items[1:] },
		"the 4th":      func(q *api.Queue) { q.Items[3] = ask(3) },
		"the 5th":      func(q *api.Queue) { q.Items[4] = ask(3) },
		"round":        func(q *api.Queue) { slices.Reverse(q.Items) },
		"two round":    func(q *api.Queue) { q.Items[3], q.Items[4] = q.Items[4], q.Items[3] },
		"a body":       func(q *api.Queue) { q.Items[0].Letter.Body = append(q.Items[0].Letter.Body, 0) },
		"another body": func(q *api.Queue) { q.Items[0].Letter.Body[0]++ },
		"a vouch":      func(q *api.Queue) { q.Items[4].Object.Vouches = make([]api.Vouch, 1) },
		"Asker":        func(q *api.Queue) { q.Items[1].Asker++ },
		"Peer":         func(q *api.Queue) { q.Items[1].Peer++ },
		"a key":        func(q *api.Queue) { q.Items[2].Bundle.Once[31]++ },
	} {
		q := stood(waiting(8))
		set(&q)
		put(what, q)
	}
}

// A store takes the rows, and tells them by rising names.
func TestRowsInAStore(t *testing.T) {
	s, _ := store.Open(disk.New(2000))
	queues := map[string]api.Queue{"q0": waiting(8), "q1": waiting(3), "q2": {}, "in": {Items: slices.Repeat([]api.Item{bodied(697)}, 8), Sent: 4, Id: 9, Wait: 1, Back: 1}}
	for name, q := range queues {
		l, _ := fedq.Rows(name, q)
		if e := s.Commit(l); e != api.OK {
			t.Fatalf("Commit of the rows of %q: %d", name, e)
		}
	}
	for name, q := range queues {
		if got, ok := load(t, name, s.All()); !ok || !same(got, q) {
			t.Errorf("Load(%q) of a store: %s %t, want %s", name, brief(got), ok, brief(q))
		}
	}
	refusesLoad(t, "what isn't kept", "q3", s.All())
}

func TestLoadOfDrawnRows(t *testing.T) {
	d := drawer(10)
	taken := 0
	for range 4000 {
		var l []api.Change
		for range d.below(5) {
			n := d.below(4)
			var pieces [][]byte
			for range n {
				b, _ := itemBytes(d.item(byte(1 + d.below(6))))
				pieces = append(pieces, b)
			}
			l = append(l, api.Change{Name: []string{"0", "1", "h", "2"}[d.below(4)], Value: joined(pieces...), Gone: d.below(9) == 0})
		}
		at := d.below(len(l) + 1)
		l = slices.Insert(l, at, api.Change{Name: "h", Value: joined(d.text(2), []byte{byte(d.below(3))}, d.text(1), d.text(1), []byte{byte(d.below(6))})})
		if q, ok := load(t, "", l); ok {
			taken++
			keeping(t, "", q)
		}
	}
	if taken < 100 {
		t.Errorf("of the drawn rows %d are taken", taken)
	}
	for n := range 200 {
		load(t, "", []api.Change{{Name: "h", Value: d.text(n)}, {Name: "0", Value: d.text(n)}, {Name: "1", Value: d.text(n)}})
	}
	refusesRows(t, "Sent far below 0", "q", api.Queue{Sent: math.MinInt})
}
