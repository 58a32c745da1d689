package term

// Known is what is known.
type Known struct {
	names []bool // by numbers: whether that name is known
}

// Has tells whether b is known.
func (k *Known) Has(b []byte) bool {
	n, _ := k.missing(b, len(k.names))
	return n == 0
}

// missing tells the number of the first name in b, of those below that one, which isn't known, and what stands behind it; 0, if there is none.
func (k *Known) missing(b []byte, below int) (int, []byte) {
	n, rest := next(b, below)
	for n > 0 && k.names[n] {
		n, rest = next(rest, below)
	}
	return n, rest
}

// Known tells what is known of seen.
func (t *Table) Known(seen [][]byte) *Known {
	s := &search{known: &Known{make([]bool, t.beyond())}, wait: make([][]func(), t.beyond())}
	for _, b := range seen {
		s.learn(b, t.beyond())
	}
	for n := 1; n < t.beyond(); n++ {
		kind, parts := t.read(n)
		s.build(n, kind, parts)
		s.open(n, kind, parts)
	}
	s.spread()
	return s.known
}

// search is a search under way. Each list of bytes waits for one name at a time, so that all are gone through just once, however the names hang on one another.
type search struct {
	known *Known
	news  []int      // what is known, and hasn't been told to those that wait for it
	wait  [][]func() // by numbers: what is to be done as soon as that name is known
}

// spread tells what is known to those that wait for it, till nothing new comes of it.
func (s *search) spread() {
	for len(s.news) > 0 {
		last := len(s.news) - 1
		n := s.news[last]
		s.news = s.news[:last]
		for _, do := range s.wait[n] {
			do()
		}
		s.wait[n] = nil
	}
}

// add takes the name of that number as known.
func (s *search) add(n int) {
	if !s.known.names[n] {
		s.known.names[n] = true
		s.news = append(s.news, n)
	}
}

// learn takes all names in b, of numbers below that one, as known.
func (s *search) learn(b []byte, below int) {
	for n, rest := next(b, below); n > 0; n, rest = next(rest, below) {
		s.add(n)
	}
}

// await does what is to be done as soon as all names in b, of numbers below that one, are known.
func (s *search) await(b []byte, below int, do func()) {
	n, rest := s.known.missing(b, below)
	if n == 0 {
		do()
		return
	}
	s.wait[n] = append(s.wait[n], func() { s.await(rest, below, do) })
}

// build has the term number n known as soon as enough of its parts are.
func (s *search) build(n, kind int, parts [][]byte) {
	if kind == Nonce {
		return
	}
	left := len(parts)
	if left == 0 {
		s.add(n)
	} else if kind == Shared {
		left = 1
	}
	for _, p := range parts {
		s.await(p, n, func() {
			left--
			if left == 0 {
				s.add(n)
			}
		})
	}
}

// open has the second part of what is sealed known as soon as it is known itself, and its first part is.
func (s *search) open(n, kind int, parts [][]byte) {
	if kind != Sealed || len(parts) < 2 {
		return
	}
	// Whether its name was seen, or built of its parts, isn't asked: of what is built all parts are known already.
	own := name(n)
	s.await(own[:], n+1, func() {
		s.await(parts[0], n, func() { s.learn(parts[1], n) })
	})
}
