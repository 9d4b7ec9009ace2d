package bias

import "testing"

// TestAccepts: P18.1, numbers about the scaled factor and the scale, by hand.
func TestAccepts(t *testing.T) {
	for _, k := range []struct {
		p, q   uint32
		step   step
		factor uint64
	}{
		{2, 3, step{}, 2},
		{2, 3, step{near: true}, 6},
		{2, 3, step{back: true}, 3},
		{2, 3, step{back: true, near: true}, 3},
		{5, 4, step{}, 5},
		{5, 4, step{near: true}, 20},
		{5, 4, step{back: true}, 4},
		{5, 4, step{back: true, near: true}, 4},
		{1, 1, step{}, 1},
		{1, 1, step{near: true}, 1},
		{1, 1, step{back: true}, 1},
		{last, last, step{}, last},
		{last, last, step{near: true}, 0xfffffffe00000001},
		{last, last, step{back: true}, last},
		{last, last, step{back: true, near: true}, last},
		{1 << 16, 1 << 16, step{near: true}, 1 << 32},
		{1 << 16, 1 << 16, step{}, 1 << 16},
	} {
		scale := uint64(k.p) * uint64(k.q)
		wantAccepts(t, k.p, k.q, k.step, 0, true)
		wantAccepts(t, k.p, k.q, k.step, k.factor-1, true)
		wantAccepts(t, k.p, k.q, k.step, k.factor, false)
		wantAccepts(t, k.p, k.q, k.step, k.factor+1, false)
		wantAccepts(t, k.p, k.q, k.step, scale-1, k.factor == scale)
		wantAccepts(t, k.p, k.q, k.step, scale, false)
		wantAccepts(t, k.p, k.q, k.step, scale+1, false)
		wantAccepts(t, k.p, k.q, k.step, 1<<63, k.factor > 1<<63)
		wantAccepts(t, k.p, k.q, k.step, most, false)
	}
}

// TestAcceptsZero: P18.1, a p of 0 and a q of 0: a factor of 0 accepts nothing, and one that is not 0 still accepts what is below it.
func TestAcceptsZero(t *testing.T) {
	for _, u := range []uint64{0, 1, 4, 5, 6, most} {
		for _, s := range steps {
			wantAccepts(t, 0, 0, s, u, false)
			wantAccepts(t, 0, 5, s, u, s.back && u < 5)
			wantAccepts(t, 5, 0, s, u, s == step{} && u < 5)
		}
	}
}

// TestSureBack: P18.1, back never depends on near.
func TestSureBack(t *testing.T) {
	for p, q := range pairs(sizes) {
		for _, u := range places(p, q) {
			wantSure(t, p, q, true, u, u < uint64(q), true)
		}
	}
}

// TestSure: P18.1, a step that is not back, with a number below both factors, at or above both, and between them.
func TestSure(t *testing.T) {
	for _, k := range []struct {
		p, q      uint32
		low, high uint64 // the factor of others, and that of near
	}{
		{2, 3, 2, 6},
		{3, 2, 3, 6},
		{4, 5, 4, 20},
		{1, 2, 1, 2},
		{1, 1 << 31, 1, 1 << 31},
		{1 << 16, 1 << 16, 1 << 16, 1 << 32},
		{last, 2, last, 2 * last},
		{last, last, last, 0xfffffffe00000001},
	} {
		for _, u := range []uint64{0, k.low / 2, k.low - 1} {
			wantSure(t, k.p, k.q, false, u, true, true)
		}
		for _, u := range []uint64{k.low, k.low + (k.high-k.low)/2, k.high - 1} {
			wantSure(t, k.p, k.q, false, u, false, false)
		}
		for _, u := range []uint64{k.high, k.high + 1, most} {
			wantSure(t, k.p, k.q, false, u, false, true)
		}
	}
}

// TestSureSame: P18.1, the factors of near and of others are the same for a q of 1 and for a p of 0, so that no number depends on near.
func TestSureSame(t *testing.T) {
	for _, p := range append(sizes, someSizes(40)...) {
		for _, u := range places(p, 1) {
			wantSure(t, p, 1, false, u, u < uint64(p), true)
		}
	}
	for _, q := range append(sizes, someSizes(40)...) {
		for _, u := range places(0, q) {
			wantSure(t, 0, q, false, u, false, true)
		}
	}
}

// TestSureLess: P18.1, for a q of 0 the factor of near is below that of others: what is between them is not certain.
func TestSureLess(t *testing.T) {
	for _, p := range []uint32{1, 2, 5, 1 << 31, last} {
		for _, u := range []uint64{0, uint64(p) / 2, uint64(p) - 1} {
			wantSure(t, p, 0, false, u, false, false)
		}
		for _, u := range []uint64{uint64(p), uint64(p) + 1, most} {
			wantSure(t, p, 0, false, u, false, true)
		}
	}
}

// TestCount: P18.2, of the numbers below the scale exactly as many accept as the scaled factor states, counted number by number; and what is certain of each is what is true of it.
func TestCount(t *testing.T) {
	for p := uint32(1); p <= 24; p++ {
		for q := uint32(1); q <= 24; q++ {
			for _, s := range steps {
				count := uint64(0)
				for u := range uint64(p) * uint64(q) {
					accepts := Accepts(p, q, s.back, s.near, u)
					if accepts {
						count++
					}
					if is, sure := Sure(p, q, s.back, u); sure && is != accepts || is && !sure {
						t.Fatalf("Sure(%d, %d, %v, %d) is %v and %v, but it is %v", p, q, s.back, u, is, sure, accepts)
					}
				}
				if want := slowFactor(p, q, s).Uint64(); count != want || count != Weight(p, q, s.back, s.near) {
					t.Fatalf("for %d and %d, back %v and near %v, %d numbers accept, not %d", p, q, s.back, s.near, count, want)
				}
			}
		}
	}
}

// TestCountSure: P18.2, for a step that is not back, the numbers below the scale that are not certain are those between the factors, counted number by number.
func TestCountSure(t *testing.T) {
	for p := uint32(1); p <= 24; p++ {
		for q := uint32(1); q <= 24; q++ {
			var yes, no, open uint32
			for u := range uint64(p) * uint64(q) {
				switch is, sure := Sure(p, q, false, u); {
				case !sure:
					open++
				case is:
					yes++
				default:
					no++
				}
			}
			if yes != p || no != 0 || open != p*q-p {
				t.Fatalf("for %d and %d, %d accept, %d do not, and %d are not certain", p, q, yes, no, open)
			}
		}
	}
}

// TestExample: P18.1, the chapter's example: for p 2 and q 3, back 3 of 6, near 6, others 2.
func TestExample(t *testing.T) {
	wantScale(t, 2, 3, 6)
	wantWeight(t, 2, 3, step{back: true}, 3)
	wantWeight(t, 2, 3, step{near: true}, 6)
	wantWeight(t, 2, 3, step{}, 2)
	for u := range uint64(6) {
		wantAccepts(t, 2, 3, step{back: true}, u, u < 3)
		wantAccepts(t, 2, 3, step{near: true}, u, true)
		wantAccepts(t, 2, 3, step{}, u, u < 2)
		wantSure(t, 2, 3, true, u, u < 3, true)
		wantSure(t, 2, 3, false, u, u < 2, u < 2)
	}
	wantSure(t, 2, 3, false, 6, false, true)
}

// TestAll: P18.1 and P0.1, all calls, against the chapter: small p and q with all small numbers, and p and q at the edges and without a pattern with the numbers about their factors.
func TestAll(t *testing.T) {
	var numbers []uint64
	for u := range uint64(90) {
		numbers = append(numbers, u)
	}
	for p, q := range pairs([]uint32{0, 1, 2, 3, 4, 5, 6, 7, 8, 9}) {
		wantAll(t, p, q, numbers)
	}
	for p, q := range pairs(append(sizes, someSizes(30)...)) {
		wantAll(t, p, q, places(p, q))
	}
}

// TestAgain: P0.6, what is asked before and between changes no answer.
func TestAgain(t *testing.T) {
	for range 3 {
		wantScale(t, last, last, 0xfffffffe00000001)
		wantWeight(t, 4, 5, step{near: true}, 20)
		wantWeight(t, 4, 5, step{}, 4)
		wantAccepts(t, 4, 5, step{}, 4, false)
		wantSure(t, 4, 5, false, 4, false, false)
		wantAccepts(t, 4, 5, step{near: true}, 4, true)
		wantSure(t, 4, 5, true, 4, true, true)
		wantSure(t, 4, 5, false, 4, false, false)
	}
}
