package foe_test

import (
	"bytes"
	"slices"

	"missive/api"
)

// What is handed in.

// drawer makes numbers and bytes that look like thrown ones, the same each time.
type drawer uint64

func (d *drawer) below(n int) int {
	*d = *d*6364136223846793005 + 1442695040888963407
	return int(uint64(*d) >> 33 % uint64(n))
}

func (d *drawer) text(n int) []byte {
	b := make([]byte, n)
	for i := range b {
		b[i] = byte(d.below(256))
	}
	return b
}

func (d *drawer) key() api.Key { return api.Key(d.text(32)) }

// Steps of each kind.

func write(text string) api.Step       { return api.Step{Kind: api.FoeWrite, Bytes: []byte(text)} }
func seen(n int) api.Step              { return api.Step{Kind: api.FoeSeen, N: n} }
func piece(a, n int) api.Step          { return api.Step{Kind: api.FoePiece, A: a, N: n} }
func join(l ...int) api.Step           { return api.Step{Kind: api.FoeJoin, Parts: l} }
func fresh(n int) api.Step             { return api.Step{Kind: api.FoeFresh, N: n} }
func public(a int) api.Step            { return api.Step{Kind: api.FoePublic, A: a} }
func signer(a int) api.Step            { return api.Step{Kind: api.FoeSigner, A: a} }
func agree(a, b int) api.Step          { return api.Step{Kind: api.FoeAgree, A: a, B: b} }
func sign(a, b int) api.Step           { return api.Step{Kind: api.FoeSign, A: a, B: b} }
func mix(label int, l ...int) api.Step { return api.Step{Kind: api.FoeMix, N: label, Parts: l} }
func seal(a, b int) api.Step           { return api.Step{Kind: api.FoeSeal, A: a, B: b} }
func open(a, b int) api.Step           { return api.Step{Kind: api.FoeOpen, A: a, B: b} }
func held(n int) api.Step              { return api.Step{Kind: api.FoeOwn, N: n} }

// with are the steps, and these behind them.
func with(l []api.Step, more ...api.Step) []api.Step { return slices.Concat(l, more) }

// zeros are so many bytes 0.
func zeros(n int) []byte { return make([]byte, n) }

// of is a joined text of these pieces, which can be joined.
func of(l ...[]byte) []byte {
	b, _ := joined(l...)
	return b
}

// sized is a joined text of so many bytes, from 1 to 8199, of as few pieces as it needs.
func sized(n int) []byte {
	switch {
	case n == 1:
		return of()
	case n <= 4099:
		return of(zeros(n - 3))
	}
	return of(zeros(4096), zeros(n-4101))
}

// extremes are numbers that are no place, and none of whatever is counted, and some at the edges of what is.
func extremes() []int {
	l := []int{0, 1}
	for _, bits := range []int{1, 2, 4, 5, 8, 13, 15, 16, 31, 32, 62, 63} {
		for by := range 3 {
			n := 1<<bits + by - 1
			l = append(l, n, -n)
		}
	}
	return l
}

// low are public keys of low order: with these nobody agrees really.
func low() (l []api.Key) {
	p := api.Key(bytes.Repeat([]byte{255}, 32))
	p[0], p[31] = 237, 127 // 2^255 - 19, which is 0
	next := p
	next[0]++
	return append(l, api.Key{}, api.Key{1}, p, next)
}
