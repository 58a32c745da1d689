package fedq_test

import (
	"bytes"
	"fmt"
	"math"
	"slices"
	"testing"

	"missive/api"
	"missive/fedq"
)

// The chapter's example

func TestExample(t *testing.T) {
	var q api.Queue
	for n := range 5 {
		q = puts(t, "an item", q, ask(n), api.OK)
	}
	q, x, ok := poll(t, q)
	if !ok || x.Id != 1 || !equal(x, api.Trans{Id: 1, Items: asks(0, 4)}) {
		t.Errorf("the first Poll: %v %t", x, ok)
	}
	if _, _, ok := poll(t, q); ok {
		t.Error("Poll at once")
	}
	q, x, ok = poll(t, tick(t, q))
	if !ok || x.Id != 1 || len(x.Items) != 4 || q.Wait != 2 {
		t.Errorf("the second Poll: %v %t, %s", x, ok, brief(q))
	}
	q, ok = acked(t, q, 1)
	if !ok || len(q.Items) != 1 {
		t.Errorf("Acked: %s %t", brief(q), ok)
	}
	if _, x, ok = poll(t, q); !ok || !equal(x, api.Trans{Id: 2, Items: asks(4, 1)}) {
		t.Errorf("the third Poll: %v %t", x, ok)
	}
	for _, c := range []struct {
		last, id, n uint16
		do, told    bool
	}{{1, 1, 1, false, true}, {1, 3, 1, false, false}} {
		if n, do, told := take(t, c.last, c.id); n != c.n || do != c.do || told != c.told {
			t.Errorf("Take(%d, %d): %d %t %t", c.last, c.id, n, do, told)
		}
	}
}

// P21.1

// puts asks for Put's error.
func puts(t *testing.T, what string, q api.Queue, x api.Item, want api.Errno) api.Queue {
	t.Helper()
	got, e := put(t, q, x)
	if e != want {
		t.Fatalf("Put, %s: %d, want %d", what, e, want)
	}
	return got
}

func TestPut(t *testing.T) {
	d := drawer(1)
	for kind := byte(1); kind <= 6; kind++ {
		var q api.Queue
		for n := range 8 {
			x := d.item(kind)
			q = puts(t, fmt.Sprint("the kind ", kind), q, x, api.OK)
			if len(q.Items) != n+1 || !alike(q.Items[n], x) {
				t.Fatalf("Put of the kind %d: %s", kind, brief(q))
			}
		}
		puts(t, "a ninth one", q, d.item(kind), api.ErrFull)
	}
}

// What waits, and what is under way, is left as it is.
func TestPutLeavesTheQueue(t *testing.T) {
	d := drawer(2)
	for n := range 12 {
		for _, sent := range sents() {
			for i := range 4 {
				q := api.Queue{Items: d.items(n), Sent: sent, Id: d.number(), Wait: d.byte(), Back: d.byte()}
				want := api.OK
				if n >= 8 {
					want = api.ErrFull
				}
				puts(t, "any queue", q, d.item(byte(1+(n+i)%6)), want)
				puts(t, "any queue, an item that is none", q, api.Item{Asker: 1}, api.ErrForm)
				puts(t, "any queue, an item that is too long", q, bodied(698), api.ErrLong)
			}
		}
	}
	for _, q := range []api.Queue{{Id: 65535}, {Wait: 255, Back: 255}, {Sent: 8}, {Items: []api.Item{}}, {Items: []api.Item{{}, {Kind: 9}}, Id: 65535}} {
		puts(t, "at the edge", q, ask(7), api.OK)
	}
}

// unwritable are items that can't be written.
func unwritable() map[string]api.Item {
	l := map[string]api.Item{
		"a zero item":         {},
		"the kind 7":          {Kind: 7, Asker: 1, Peer: 2},
		"the kind 255":        {Kind: 255},
		"no kind":             {Asker: 1, Peer: 2},
		"a letter's Asker":    {Kind: 1, Asker: 1},
		"a letter's Peer":     {Kind: 1, Peer: 1},
		"a letter's Bundle":   {Kind: 1, Bundle: api.Bundle{Id: 1}},
		"a letter's Object":   {Kind: 1, Object: api.Object{N: 1}},
		"a letter's Agree":    {Kind: 1, Letter: api.Letter{Header: api.Header{Agree: api.Key{31: 1}}}},
		"a letter's Signer":   {Kind: 1, Letter: api.Letter{Header: api.Header{Signer: api.Key{1}}}},
		"a letter's Base":     {Kind: 1, Letter: api.Letter{Header: api.Header{Base: api.Key{1}}}},
		"a letter's Id":       {Kind: 1, Letter: api.Letter{Header: api.Header{Id: 256}}},
		"a question's body":   {Kind: 2, Letter: api.Letter{Body: []byte{0}}},
		"a question's Bundle": {Kind: 2, Bundle: api.Bundle{Sig: api.Sig{63: 1}}},
		"a gift's Peer":       {Kind: 3, Peer: 1},
		"a gift's vouch":      {Kind: 3, Object: api.Object{Vouches: make([]api.Vouch, 1)}},
		"none's Letter":       {Kind: 4, Letter: api.Letter{To: 1}},
		"none's Object":       {Kind: 4, Object: api.Object{Until: 1}},
		"an object's Asker":   {Kind: 5, Asker: 1},
		"an object's Peer":    {Kind: 6, Peer: 1},
		"a letter too long":   bodied(3900),
		"a letter of a piece": bodied(4097),
		"a letter very long":  bodied(100000),
	}
	for n := 5; n < 70; n++ {
		l[fmt.Sprint(n, " vouches")] = api.Item{Kind: byte(5 + n%2), Object: api.Object{Vouches: make([]api.Vouch, n)}}
	}
	return l
}

func TestPutOfWhatCannotBeWritten(t *testing.T) {
	for what, x := range unwritable() {
		for _, n := range []int{0, 1, 7, 8, 9} {
			q := puts(t, what, api.Queue{Items: asks(0, n), Sent: min(n, 4), Id: 3, Wait: 4, Back: 5}, x, api.ErrForm)
			if len(q.Items) != n || q.Id != 3 {
				t.Fatalf("Put, %s: %s", what, brief(q))
			}
		}
	}
}

// A letter's other bytes are 203: a body of 697 is the longest.
func TestPutOfLongItems(t *testing.T) {
	for body := range 1000 {
		want := api.OK
		if body > 697 {
			want = api.ErrLong
		}
		q := puts(t, fmt.Sprint("a body of ", body), api.Queue{}, bodied(body), want)
		if want == api.OK && len(q.Items[0].Letter.Body) != body {
			t.Fatalf("Put of a body of %d: %d", body, len(q.Items[0].Letter.Body))
		}
	}
	if b, _ := itemBytes(bodied(697)); len(b) != 900 {
		t.Fatalf("the longest item has %d bytes", len(b))
	}
	for _, body := range []int{1000, 2000, 3893, 3898, 3899} {
		puts(t, fmt.Sprint("a body of ", body), api.Queue{}, bodied(body), api.ErrLong)
		puts(t, fmt.Sprint("a body of ", body, " behind eight"), api.Queue{Items: asks(0, 8)}, bodied(body), api.ErrLong)
	}
	puts(t, "a body of 3900", api.Queue{}, bodied(3900), api.ErrForm)
	x := bodied(698)
	x.Letter.Header.First = true
	puts(t, "a first letter", api.Queue{}, x, api.ErrLong)
	// Of no other kind there are any that are too long.
	for _, kind := range []byte{5, 6} {
		puts(t, "four vouches", api.Queue{}, api.Item{Kind: kind, Object: api.Object{Vouches: make([]api.Vouch, 4)}}, api.OK)
	}
}

func TestPutIntoFullQueues(t *testing.T) {
	for _, n := range []int{0, 1, 6, 7, 8, 9, 10, 16, 64, 256, 264, 1000} {
		want := api.OK
		if n >= 8 {
			want = api.ErrFull
		}
		q := puts(t, fmt.Sprint("behind ", n), api.Queue{Items: asks(0, n)}, ask(n), want)
		if !slices.EqualFunc(q.Items[:n], asks(0, n), alike) {
			t.Fatalf("Put behind %d: %s", n, brief(q))
		}
	}
}

// P21.2

func TestTick(t *testing.T) {
	d := drawer(3)
	for wait := range 256 {
		q := d.queue(wait % 10)
		q.Wait, q.Back = byte(wait), d.byte()
		if got := tick(t, q); int(got.Wait) != max(wait-1, 0) {
			t.Fatalf("Tick, Wait %d: %d", wait, got.Wait)
		}
	}
	tick(t, api.Queue{})
	for _, sent := range sents() {
		tick(t, api.Queue{Items: asks(0, 3), Sent: sent, Id: 65535, Wait: 3, Back: 255})
	}
}

// Each queue, of all that has to do with whether and what is polled.
func TestPoll(t *testing.T) {
	for n := range 11 {
		for _, sent := range sents() {
			for _, wait := range []byte{0, 1, 16, 255} {
				for _, id := range []uint16{0, 1, 255, 256, 65534, 65535} {
					for _, back := range []byte{0, 1, 2, 3, 7, 8, 9, 15, 16, 17, 127, 128, 129, 255} {
						poll(t, api.Queue{Items: asks(20*n, n), Sent: sent, Id: id, Wait: wait, Back: back})
					}
				}
			}
		}
	}
	for back := range 256 {
		q, _, _ := poll(t, api.Queue{Items: asks(0, 2), Sent: 1, Id: 3, Back: byte(back)})
		if want := byte(min(2*back, 16)); q.Back != want || q.Wait != want {
			t.Errorf("Poll, Back %d: Wait %d, Back %d", back, q.Wait, q.Back)
		}
	}
	for wait := range 256 {
		if _, _, ok := poll(t, api.Queue{Items: asks(0, 1), Wait: byte(wait)}); ok != (wait == 0) {
			t.Errorf("Poll, Wait %d: %t", wait, ok)
		}
	}
	d := drawer(4)
	for i := range 200 {
		q := d.queue(i % 10)
		q.Wait = 0
		poll(t, q)
	}
}

func TestPollOfNone(t *testing.T) {
	for what, q := range map[string]api.Queue{
		"a zero queue":                   {},
		"no items, some Sent":            {Sent: 2, Id: 4, Back: 2},
		"Wait above 0":                   {Items: asks(0, 3), Wait: 1},
		"Wait above 0, under way":        {Items: asks(0, 3), Sent: 3, Id: 1, Wait: 1, Back: 1},
		"the greatest number":            {Items: asks(0, 3), Id: api.MaxCount},
		"the greatest number, and Wait":  {Items: asks(0, 3), Id: api.MaxCount, Wait: 1, Back: 7},
		"the greatest number, and Backs": {Items: asks(0, 3), Id: api.MaxCount, Back: 7},
	} {
		if got, x, ok := poll(t, q); ok || !same(got, q) || !equal(x, api.Trans{}) {
			t.Errorf("Poll, %s: %s, %v, %t", what, brief(got), x, ok)
		}
	}
	// The greatest number is still had, again and again.
	q := api.Queue{Items: asks(0, 6), Id: api.MaxCount - 1}
	for range 3 {
		next, x, ok := poll(t, q)
		if !ok || x.Id != api.MaxCount || len(x.Items) != 4 {
			t.Fatalf("Poll of the last transaction: %v %t", x, ok)
		}
		q = next
		q.Wait = 0
	}
	q, _ = acked(t, q, api.MaxCount)
	if _, _, ok := poll(t, q); ok || len(q.Items) != 2 {
		t.Errorf("Poll behind the last transaction: %t, %s", ok, brief(q))
	}
}

// At which ticks a transaction is sent that nobody acknowledges.
func TestSentEverMoreRarely(t *testing.T) {
	q := puts(t, "one", api.Queue{}, ask(1), api.OK)
	var at []int
	for now := range 100 {
		next, x, ok := poll(t, q)
		if ok {
			at = append(at, now)
			if x.Id != 1 || !slices.EqualFunc(x.Items, asks(1, 1), alike) {
				t.Fatalf("at %d there is sent %v", now, x)
			}
		}
		if now == 4 { // what comes meanwhile waits for the next one
			next = puts(t, "another", next, ask(2), api.OK)
		}
		q = tick(t, next)
	}
	if want := []int{0, 1, 3, 7, 15, 31, 47, 63, 79, 95}; !slices.Equal(at, want) {
		t.Errorf("sent at %v, want %v", at, want)
	}
	q, _ = acked(t, q, 1)
	if q, x, ok := poll(t, q); !ok || !equal(x, api.Trans{Id: 2, Items: asks(2, 1)}) || q.Wait != 1 || q.Back != 1 {
		t.Errorf("behind it: %s, %v, %t", brief(q), x, ok)
	}
}

// A transaction under way has the same items, whatever is put behind them.
func TestPollWhilePut(t *testing.T) {
	for n := 1; n <= 8; n++ {
		q := api.Queue{Items: asks(0, n)}
		q, first, _ := poll(t, q)
		for n := n; n < 8; n++ {
			q = puts(t, "behind", q, ask(n), api.OK)
			q.Wait = 0
			next, x, ok := poll(t, q)
			if !ok || !equal(x, first) || len(x.Items) != min(next.Sent, 4) {
				t.Fatalf("Poll: %v %t, want %v", x, ok, first)
			}
			q = next
		}
	}
}

// P21.3

func TestAcked(t *testing.T) {
	for n := range 11 {
		for _, sent := range sents() {
			for _, id := range []uint16{0, 1, 2, 255, 256, 257, 32767, 65534, 65535} {
				q := api.Queue{Items: asks(20*n, n), Sent: sent, Id: id, Wait: 3, Back: 4}
				for _, told := range []uint16{id, id + 1, id - 1, id ^ 256, id ^ 32768, 0, 1} {
					acked(t, q, told)
				}
			}
		}
	}
	d := drawer(5)
	for i := range 200 {
		q := d.queue(i % 10)
		got, ok := acked(t, q, q.Id)
		if ok != (q.Sent > 0) || ok && (got.Sent != 0 || got.Wait != 0 || got.Back != 0 || got.Id != q.Id || len(got.Items) != len(q.Items)-q.Sent) {
			t.Fatalf("Acked(%s): %s %t", brief(q), brief(got), ok)
		}
		acked(t, q, q.Id+1)
	}
}

func TestAckedTwice(t *testing.T) {
	q, _, _ := poll(t, api.Queue{Items: asks(0, 6)})
	q, ok := acked(t, q, 1)
	if !ok || !slices.EqualFunc(q.Items, asks(4, 2), alike) {
		t.Fatalf("Acked: %s %t", brief(q), ok)
	}
	if got, ok := acked(t, q, 1); ok || !same(got, q) {
		t.Errorf("Acked once more: %s %t", brief(got), ok)
	}
	if got, ok := acked(t, q, 2); ok || !same(got, q) {
		t.Errorf("Acked ahead: %s %t", brief(got), ok)
	}
	if got, ok := acked(t, api.Queue{}, 0); ok || !same(got, api.Queue{}) {
		t.Errorf("Acked of a zero queue: %s %t", brief(got), ok)
	}
}

// P21.4

func TestTake(t *testing.T) {
	for _, a := range []uint16{0, 1, 2, 3, 127, 128, 254, 255, 256, 257, 32766, 32767, 32768, 32769, 65533, 65534, 65535} {
		for b := range 65536 {
			take(t, a, uint16(b))
			take(t, uint16(b), a)
		}
	}
	for _, c := range []struct {
		last, id, n uint16
		do, told    bool
	}{
		{0, 0, 0, false, false}, {0, 1, 1, true, true}, {0, 2, 0, false, false}, {1, 0, 1, false, false}, {1, 1, 1, false, true}, {1, 2, 2, true, true},
		{1, 3, 1, false, false}, {7, 1, 7, false, true}, {7, 7, 7, false, true}, {7, 8, 8, true, true}, {7, 9, 7, false, false}, {7, 0, 7, false, false},
		{65534, 65535, 65535, true, true}, {65535, 65535, 65535, false, true}, {65535, 0, 65535, false, false}, {65535, 1, 65535, false, true}, {65534, 0, 65534, false, false},
	} {
		if n, do, told := take(t, c.last, c.id); n != c.n || do != c.do || told != c.told {
			t.Errorf("Take(%d, %d): %d %t %t, want %d %t %t", c.last, c.id, n, do, told, c.n, c.do, c.told)
		}
	}
}

// Whatever a queue is said to be.
func TestTotal(t *testing.T) {
	d := drawer(6)
	for i := range 400 {
		q := api.Queue{Items: d.items(d.below(13)), Sent: d.below(16) - 3, Id: d.number(), Wait: byte(d.below(3)), Back: d.byte()}
		if i%7 == 0 {
			q.Sent = sents()[i/7%len(sents())]
		}
		if i%5 == 0 && len(q.Items) > 0 {
			q.Items[d.below(len(q.Items))] = []api.Item{{}, {Kind: 7}, bodied(698), bodied(5000), {Kind: 6, Object: api.Object{Vouches: make([]api.Vouch, 90)}}}[i/5%5]
		}
		put(t, q, d.item(byte(d.below(8))))
		tick(t, q)
		poll(t, q)
		acked(t, q, q.Id)
		acked(t, q, d.number())
		name := string(d.text(d.below(40)))
		l, _ := rows(t, name, q)
		load(t, name, l)
	}
	many := api.Queue{Items: make([]api.Item, 5000), Sent: math.MaxInt}
	put(t, many, ask(1))
	tick(t, many)
	poll(t, many)
	acked(t, many, 0)
	rows(t, "q", many)
}

// Who is handed a queue has the whole of what waits in it: also what could never have been put.
func TestPollOfWhatCannotBeWritten(t *testing.T) {
	q := api.Queue{Items: []api.Item{{}, bodied(5000)}}
	if _, x, ok := poll(t, q); !ok || len(x.Items) != 2 || !bytes.Equal(x.Items[1].Letter.Body, q.Items[1].Letter.Body) {
		t.Errorf("Poll: %d items, %t", len(x.Items), ok)
	}
	if _, x, ok := fedq.Poll(api.Queue{Items: asks(0, 9), Sent: 9, Id: 1}); !ok || len(x.Items) != 9 {
		t.Errorf("Poll of nine: %d items, %t", len(x.Items), ok)
	}
}
