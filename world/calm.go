package world

import (
	"maps"
	"slices"

	"missive/api"
	"missive/bag"
)

const (
	maxRounds = 1000
	maxMoves  = 300 // of what is on the way, in a round
)

// Calm lets all nodes live and tick, and all that they send arrive, for so many rounds.
func (w *World) Calm(rounds int) {
	nodes := slices.Sorted(maps.Keys(w.nodes))
	for _, number := range nodes {
		w.nodes[number].disk.Fuse(-1)
	}
	for range min(rounds, maxRounds) {
		for _, number := range nodes {
			w.wake(number)
		}
		w.deliver()
	}
}

// wake starts a node, if it is down, and lets it tick.
func (w *World) wake(number byte) {
	if w.Down(number) {
		w.Do(api.Entry{Kind: api.ActStart, Who: number})
	}
	w.Do(api.Entry{Kind: api.ActTick, Who: number})
}

// deliver lets what is on the way arrive, each thing in its time.
func (w *World) deliver() {
	for range maxMoves {
		switch {
		case len(w.bag) == 0:
			return
		case bag.Ripe(w.bag, w.clock) < 0:
			w.Do(api.Entry{Kind: api.ActClock})
		default:
			w.Do(api.Entry{Kind: api.ActRipe})
		}
	}
}
