package bias

import (
	"math/big"
	"testing"
)

// TestScale: P18.1, p times q, of 0, of 1, and of the greatest p and q, whose product needs all 64 bits.
func TestScale(t *testing.T) {
	for _, k := range []struct {
		p, q uint32
		want uint64
	}{
		{0, 0, 0},
		{0, 1, 0},
		{1, 0, 0},
		{0, last, 0},
		{last, 0, 0},
		{1, 1, 1},
		{1, 7, 7},
		{7, 1, 7},
		{2, 3, 6},
		{4, 5, 20},
		{1, last, last},
		{last, 1, last},
		{1 << 16, 1 << 16, 1 << 32}, // in 32 bits it would be 0
		{1<<16 + 1, 1 << 16, 1<<32 + 1<<16},
		{1 << 31, 2, 1 << 32},
		{1 << 31, 1 << 31, 1 << 62},
		{1 << 31, last, 1<<63 - 1<<31},
		{last, 1 << 31, 1<<63 - 1<<31},
		{last - 1, last, 0xfffffffd00000002},
		{last, last, 0xfffffffe00000001},
	} {
		wantScale(t, k.p, k.q, k.want)
		if got := slowScale(k.p, k.q); !got.IsUint64() || got.Uint64() != k.want {
			t.Errorf("by the chapter, the scale of %d and %d is %v", k.p, k.q, got)
		}
	}
}

// TestWeight: P18.1, back is q whether near or not, near is p times q, and others are p.
func TestWeight(t *testing.T) {
	for _, k := range []struct {
		p, q               uint32
		back, near, others uint64
	}{
		{1, 1, 1, 1, 1},
		{2, 3, 3, 6, 2}, // the chapter's example
		{3, 2, 2, 6, 3},
		{4, 5, 5, 20, 4},
		{1, 7, 7, 7, 1},
		{7, 1, 1, 7, 7},
		{6, 6, 6, 36, 6},
		{1 << 16, 1 << 16, 1 << 16, 1 << 32, 1 << 16},
		{1, last, last, last, 1},
		{last, 1, 1, last, last},
		{2, last, last, 2 * last, 2},
		{last, 2, 2, 2 * last, last},
		{last, last - 1, last - 1, 0xfffffffd00000002, last},
		{last, last, last, 0xfffffffe00000001, last},
		{0, 0, 0, 0, 0},
		{0, 5, 5, 0, 0},
		{5, 0, 0, 0, 5},
		{0, last, last, 0, 0},
		{last, 0, 0, 0, last},
	} {
		wantWeight(t, k.p, k.q, step{back: true}, k.back)
		wantWeight(t, k.p, k.q, step{back: true, near: true}, k.back)
		wantWeight(t, k.p, k.q, step{near: true}, k.near)
		wantWeight(t, k.p, k.q, step{}, k.others)
	}
}

// TestWeightShares: P18.1, each scaled factor is that of 1/p, 1 or 1/q, times the scale.
func TestWeightShares(t *testing.T) {
	for p, q := range pairs(append(someSizes(40), sizes...)) {
		if p == 0 || q == 0 {
			continue
		}
		for _, s := range steps {
			scale := new(big.Rat).SetInt(slowScale(p, q))
			want := new(big.Rat).Mul(slowShare(p, q, s), scale)
			got := Weight(p, q, s.back, s.near)
			if want.Cmp(new(big.Rat).SetInt(whole(got))) != 0 {
				t.Fatalf("Weight(%d, %d, %v, %v) is %d, not %v", p, q, s.back, s.near, got, want)
			}
		}
	}
}

// TestWeightScale: P18.2, p times the scaled factor of back, that of near, and q times that of others all equal the scale.
func TestWeightScale(t *testing.T) {
	small := []uint32{0, 1, 2, 3, 4, 5, 6, 7, 8, 9, 10, 11, 12, 13, 14, 15, 16, 17}
	for _, of := range [][]uint32{small, sizes, someSizes(60)} {
		for p, q := range pairs(of) {
			scale := slowScale(p, q)
			for _, s := range steps {
				got := whole(Weight(p, q, s.back, s.near))
				if s.back {
					got.Mul(got, whole(uint64(p)))
				} else if !s.near {
					got.Mul(got, whole(uint64(q)))
				}
				if got.Cmp(scale) != 0 || scale.Cmp(whole(Scale(p, q))) != 0 {
					t.Fatalf("the factors of %d and %d, back %v and near %v, are %v times a number, not %v", p, q, s.back, s.near, got, scale)
				}
			}
		}
	}
}

// TestWeightGreatest: P18.2 for the greatest p and q, by hand: the products need all 64 bits, and no more.
func TestWeightGreatest(t *testing.T) {
	for _, k := range []struct {
		p, q  uint32
		scale uint64
	}{
		{last, last, 0xfffffffe00000001},
		{last, last - 1, 0xfffffffd00000002},
		{last - 1, last, 0xfffffffd00000002},
		{last, 1, last},
		{1, last, last},
	} {
		back, near, others := Weight(k.p, k.q, true, false), Weight(k.p, k.q, false, true), Weight(k.p, k.q, false, false)
		if uint64(k.p)*back != k.scale || near != k.scale || uint64(k.q)*others != k.scale || Scale(k.p, k.q) != k.scale {
			t.Errorf("the factors of %d and %d are %d, %d and %d, of %d", k.p, k.q, back, near, others, Scale(k.p, k.q))
		}
	}
}
