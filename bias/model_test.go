package bias

import (
	"iter"
	"math"
	"math/big"
	"palmer/mix"
	"slices"
	"testing"
)

const (
	last = math.MaxUint32 // the greatest p and q
	most = math.MaxUint64 // the greatest number
)

// step is what Weight and Accepts are told of a candidate step.
type step struct{ back, near bool }

// steps are all of them.
var steps = []step{{false, false}, {false, true}, {true, false}, {true, true}}

// sizes are values of p and q: small ones, the greatest ones, and those about numbers of bits.
var sizes = []uint32{0, 1, 2, 3, 4, 7, 255, 256, 257, 1<<16 - 1, 1 << 16, 1<<16 + 1, 1<<31 - 1, 1 << 31, 1<<31 + 1, last - 1, last}

// pairs yields each p with each q.
func pairs(of []uint32) iter.Seq2[uint32, uint32] {
	return func(yield func(p, q uint32) bool) {
		for _, p := range of {
			for _, q := range of {
				if !yield(p, q) {
					return
				}
			}
		}
	}
}

// someSizes are values of p and q without a pattern, of any number of bits, the same in each run.
func someSizes(count int) []uint32 {
	var l []uint32
	for i := range uint64(count) {
		l = append(l, uint32(mix.Mix(i))>>(mix.Mix(i+1<<32)%32))
	}
	return l
}

// whole is a number without a bound.
func whole(n uint64) *big.Int {
	return new(big.Int).SetUint64(n)
}

// slowScale is p times q, in integers without a bound.
func slowScale(p, q uint32) *big.Int {
	return new(big.Int).Mul(whole(uint64(p)), whole(uint64(q)))
}

// slowFactor is the scaled factor by the chapter, in integers without a bound.
func slowFactor(p, q uint32, s step) *big.Int {
	if s.back {
		return whole(uint64(q))
	}
	if s.near {
		return slowScale(p, q)
	}
	return whole(uint64(p))
}

// slowShare is the factor by the chapter, not scaled; there is none for a p or q of 0.
func slowShare(p, q uint32, s step) *big.Rat {
	if s.back {
		return big.NewRat(1, int64(p))
	}
	if s.near {
		return big.NewRat(1, 1)
	}
	return big.NewRat(1, int64(q))
}

// slowAccepts is whether a number is below the scaled factor by the chapter.
func slowAccepts(p, q uint32, s step, u uint64) bool {
	return whole(u).Cmp(slowFactor(p, q, s)) < 0
}

// slowSure is what is certain of a number by the chapter.
func slowSure(p, q uint32, back bool, u uint64) (bool, bool) {
	near, far := slowAccepts(p, q, step{back, true}, u), slowAccepts(p, q, step{back, false}, u)
	return near && far, near == far
}

// places are numbers about the factors and the scale, and some that would be such in fewer bits.
func places(p, q uint32) []uint64 {
	l := []uint64{0, 1, 2, 1<<32 - 1, 1 << 32, 1<<32 + 1, 1<<63 - 1, 1 << 63, most - 1, most}
	for _, n := range []uint64{uint64(p), uint64(q), slowScale(p, q).Uint64(), uint64(p) + uint64(q)} {
		l = append(l, n-1, n, n+1, n/2, n+1<<32-1, n+1<<32, n-1<<32, n+1<<63, n+1<<63-1)
	}
	slices.Sort(l)
	return slices.Compact(l)
}

// wantScale: P18.1, p times q.
func wantScale(t *testing.T, p, q uint32, want uint64) {
	t.Helper()
	if got := Scale(p, q); got != want {
		t.Fatalf("Scale(%d, %d) is %d, not %d", p, q, got, want)
	}
}

// wantWeight: P18.1, a scaled factor.
func wantWeight(t *testing.T, p, q uint32, s step, want uint64) {
	t.Helper()
	if got := Weight(p, q, s.back, s.near); got != want {
		t.Fatalf("Weight(%d, %d, %v, %v) is %d, not %d", p, q, s.back, s.near, got, want)
	}
}

// wantAccepts: P18.1, whether a number is below the scaled factor.
func wantAccepts(t *testing.T, p, q uint32, s step, u uint64, want bool) {
	t.Helper()
	if got := Accepts(p, q, s.back, s.near, u); got != want {
		t.Fatalf("Accepts(%d, %d, %v, %v, %d) is %v", p, q, s.back, s.near, u, got)
	}
}

// wantSure: P18.1, whether a number accepts, where that is certain.
func wantSure(t *testing.T, p, q uint32, back bool, u uint64, want, sure bool) {
	t.Helper()
	if got, is := Sure(p, q, back, u); got != want || is != sure {
		t.Fatalf("Sure(%d, %d, %v, %d) is %v and %v, not %v and %v", p, q, back, u, got, is, want, sure)
	}
}

// wantAll: P18.1, what is said of a p and a q, against the chapter.
func wantAll(t *testing.T, p, q uint32, numbers []uint64) {
	t.Helper()
	wantScale(t, p, q, slowScale(p, q).Uint64())
	for _, s := range steps {
		wantWeight(t, p, q, s, slowFactor(p, q, s).Uint64())
		for _, u := range numbers {
			wantAccepts(t, p, q, s, u, slowAccepts(p, q, s, u))
			want, sure := slowSure(p, q, s.back, u)
			wantSure(t, p, q, s.back, u, want, sure)
		}
	}
}
