// Package mix computes pseudorandom numbers that depend only on a tape, so
// that any of them can be computed again at any time.
package mix

import (
	"iter"
	"math"
	"palmer/api"
)

// tries bounds how many numbers Below looks at: a sequence may run into a
// cycle in which every number is passed over.
const tries = 128

// Mix returns n mixed, as SplitMix64 does it.
func Mix(n uint64) uint64 {
	n += 0x9e3779b97f4a7c15
	n = (n ^ n>>30) * 0xbf58476d1ce4e5b9
	n = (n ^ n>>27) * 0x94d049bb133111eb
	return n ^ n>>31
}

// Draw returns the draw of t.
func Draw(t api.Tape) uint64 {
	n := Mix(t.Seed)
	n = Mix(n ^ t.Walker)
	n = Mix(n ^ t.Step)
	return Mix(n ^ t.Attempt)
}

// Row returns the sequence of t, which does not end: whoever ranges over it
// has to leave it. It starts anew each time it is ranged over.
func Row(t api.Tape) iter.Seq[uint64] {
	return func(yield func(uint64) bool) {
		n := Draw(t)
		for yield(n) {
			n = Mix(n)
		}
	}
}

// Below returns the draw of t below n, or 0 if n is 0.
func Below(t api.Tape, n uint64) uint64 {
	if n == 0 {
		return 0
	}
	return firstBelow(Row(t), n)
}

// firstBelow returns the draw below n, at least 1, of a sequence.
func firstBelow(row iter.Seq[uint64], n uint64) uint64 {
	last := lastEven(n)
	seen := 0
	for x := range row {
		seen++
		if x <= last || seen == tries {
			return x % n
		}
	}
	return 0
}

// lastEven returns the greatest number up to which all remainders modulo n
// are equally frequent: one less than the greatest multiple of n that is at
// most 2^64. That multiple itself may be 2^64, which no uint64 holds.
func lastEven(n uint64) uint64 {
	return math.MaxUint64 - -n%n
}
