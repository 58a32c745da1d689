package fedq_test

import (
	"fmt"
	"slices"
	"testing"

	"missive/api"
	"missive/fedq"
)

// P21.6

// sending is a transaction, or an acknowledgement of one, on the way.
type sending struct {
	ack bool
	x   api.Trans
}

// link are two servers, of which the one polls and the other one takes, and what is on the way between them. Items are numbered as they are put.
type link struct {
	t     *testing.T
	q     api.Queue
	puts  int
	last  uint16
	taken int
	way   []sending
}

// begun is a link of which so many transactions were had.
func begun(t *testing.T, id uint16) link { return link{t: t, q: api.Queue{Id: id}, last: id} }

func (l link) put() link {
	q, e := fedq.Put(l.q, ask(l.puts))
	if (e == api.OK) != (len(l.q.Items) < 8) {
		l.t.Fatalf("Put behind %d: %d", len(l.q.Items), e)
	}
	if e == api.OK {
		l.q, l.puts = q, l.puts+1
	}
	return l
}

func (l link) tick() link {
	l.q = fedq.Tick(l.q)
	return l
}

func (l link) poll() link {
	q, x, ok := fedq.Poll(l.q)
	l.q = q
	if ok {
		l.way = append(slices.Clone(l.way), sending{x: x})
	}
	return l
}

// lose takes from the way what is there at a place; doubled puts it there twice.
func (l link) lose(at int) link {
	l.way = slices.Delete(slices.Clone(l.way), at, at+1)
	return l
}

func (l link) doubled(at int) link {
	l.way = append(slices.Clone(l.way), l.way[at])
	return l
}

// pass lets arrive what is on the way at a place.
func (l link) pass(at int) link {
	m := l.way[at]
	l = l.lose(at)
	if m.ack {
		l.q, _ = fedq.Acked(l.q, m.x.Id)
		return l
	}
	last, do, told := fedq.Take(l.last, m.x.Id)
	l.last = last
	if do {
		if !slices.EqualFunc(m.x.Items, asks(l.taken, len(m.x.Items)), alike) {
			l.t.Fatalf("behind %d items there are taken %v", l.taken, m.x.Items)
		}
		l.taken += len(m.x.Items)
	}
	if told {
		l.way = append(l.way, sending{ack: true, x: api.Trans{Id: m.x.Id}})
	}
	return l
}

// restart is the link whose poller was kept as rows, and is read again.
func (l link) restart() link {
	rows, ok := fedq.Rows("q0", l.q)
	q, read := fedq.Load("q0", rows)
	if !ok || !read || !same(q, l.q) {
		l.t.Fatalf("kept and read again: %s, want %s", brief(q), brief(l.q))
	}
	l.q = q
	return l
}

// holds asks for what has to hold at any time.
func (l link) holds() {
	l.t.Helper()
	waits := l.puts - len(l.q.Items)
	if l.taken > l.puts || l.taken < waits || !slices.EqualFunc(l.q.Items, asks(waits, len(l.q.Items)), alike) {
		l.t.Fatalf("of %d items %d are taken, %s wait", l.puts, l.taken, brief(l.q))
	}
}

// calm lets all arrive from now on, till nothing is to be done.
func (l link) calm() link {
	for range 60 {
		l = l.tick().poll()
		for len(l.way) > 0 {
			l = l.pass(0)
		}
	}
	return l
}

// arrives asks that all is taken, once nothing is lost any more.
func (l link) arrives() {
	l.t.Helper()
	l = l.calm()
	l.holds()
	if l.taken != l.puts || len(l.q.Items) != 0 {
		l.t.Fatalf("at last of %d items %d are taken, %s wait", l.puts, l.taken, brief(l.q))
	}
}

// state tells all of a link.
func (l link) state() string {
	s := fmt.Sprint(brief(l.q), l.puts, l.last, l.taken)
	for _, m := range l.way {
		s += fmt.Sprint(" ", m.ack, m.x.Id, len(m.x.Items))
	}
	return s
}

// next are all that may come of a link by one thing that is done.
func (l link) next(most int) (all []link) {
	if l.puts < most {
		all = append(all, l.put())
	}
	if l.q.Wait > 0 {
		all = append(all, l.tick())
	}
	if len(l.way) < 3 {
		all = append(all, l.poll())
	}
	for at := range l.way {
		all = append(all, l.pass(at), l.lose(at))
		if len(l.way) < 3 {
			all = append(all, l.doubled(at))
		}
	}
	return all
}

// All that may come of two servers by so many things done.
func TestOnceInOrderWhateverComes(t *testing.T) {
	for _, c := range []struct{ ahead, most, deep int }{{0, 2, 22}, {3, 5, 22}, {5, 6, 22}, {8, 9, 22}} {
		first := begun(t, 0)
		for range c.ahead {
			first = first.put()
		}
		deep := c.deep
		if testing.Short() {
			deep -= 10
		}
		seen, front := map[string]int{}, []link{first}
		for range deep {
			var behind []link
			for _, l := range front {
				for _, n := range l.next(c.most) {
					if s := n.state(); seen[s] == 0 {
						seen[s]++
						n.holds()
						n.arrives()
						behind = append(behind, n)
					}
				}
			}
			front = behind
		}
		if len(seen) < 500 {
			t.Errorf("of %d items there are %d states", c.ahead, len(seen))
		}
	}
}

// drawn does so many things to a link.
func (l link) drawn(d *drawer, steps, loss int) link {
	for range steps {
		switch d.below(9) {
		case 0, 1:
			l = l.put()
		case 2:
			l = l.tick()
		case 3, 4:
			l = l.tick().poll()
		case 5:
			l = l.restart()
		default:
			if len(l.way) > 0 {
				l = l.late(d, loss)
			}
		}
		l.holds()
	}
	return l
}

// late lets one of those on the way arrive, or be lost or doubled.
func (l link) late(d *drawer, loss int) link {
	at := d.below(len(l.way))
	switch n := d.below(10); {
	case n < loss:
		return l.lose(at)
	case n == 9 && len(l.way) < 40:
		return l.doubled(at)
	}
	return l.pass(at)
}

func TestOnceInOrderDrawn(t *testing.T) {
	d := drawer(30)
	for i := range 60 {
		l := begun(t, uint16(1000*i))
		for round := range 8 {
			l = l.drawn(&d, 40+10*round, i%8)
			l.arrives()
		}
		if l.taken < 8 && i%8 < 4 {
			t.Errorf("the row %d took %d", i, l.taken)
		}
	}
}

// Numbers end: what can't be numbered any more waits for ever, and nothing is taken twice.
func TestOnceAtTheLastNumber(t *testing.T) {
	d := drawer(31)
	for i := range 20 {
		l := begun(t, uint16(65530+i%6))
		l = l.drawn(&d, 500, i%5).calm()
		l.holds()
		if l.last == api.MaxCount && l.q.Sent != 0 {
			t.Errorf("at the last number %s", brief(l.q))
		}
		l = l.calm().put().calm()
		if l.holds(); l.last != api.MaxCount || len(l.way) != 0 {
			t.Errorf("at the last number %d, %s", l.last, brief(l.q))
		}
	}
}

// What is old, and what comes too early, isn't taken.
func TestTakeOutOfOrder(t *testing.T) {
	l := begun(t, 0)
	for range 8 {
		l = l.put()
	}
	l = l.poll()
	old := l.way[0]
	l = l.pass(0).pass(0).poll()
	if l.taken != 4 || l.q.Id != 2 {
		t.Fatalf("%d are taken, %s", l.taken, brief(l.q))
	}
	early := sending{x: api.Trans{Id: 3, Items: asks(20, 1)}}
	zero := sending{x: api.Trans{Items: asks(30, 1)}}
	for _, m := range []sending{old, early, zero} {
		n := l
		n.way = []sending{m}
		n = n.pass(0)
		if n.taken != 4 || n.last != 1 || len(n.way) != len(m.x.Items)/4 {
			t.Errorf("of the transaction %d: %d are taken, %d, %d answers", m.x.Id, n.taken, n.last, len(n.way))
		}
	}
	for _, id := range []uint16{0, 1, 3, 258, 65535} {
		n := l
		n.way = []sending{{ack: true, x: api.Trans{Id: id}}}
		if n = n.pass(0); !same(n.q, l.q) {
			t.Errorf("the acknowledgement %d: %s, want %s", id, brief(n.q), brief(l.q))
		}
	}
	l.arrives()
}
