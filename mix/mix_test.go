package mix

import (
	"iter"
	"math"
	"math/big"
	"palmer/api"
	"slices"
	"testing"
)

const (
	golden   = 0x9e3779b97f4a7c15
	justOver = 1<<63 + 1 // just above half of 2^64: nearly half of all numbers are passed over
)

// some are numbers at the edges of 64 bits, and a few between them.
var some = []uint64{
	0, 1, 2, 3, 5, 6, 7, 10, 127, 128, 129, 1000, 1<<31 - 1, 1 << 31, 1<<32 - 1, 1 << 32, 1<<32 + 1,
	golden, 1<<63 - 1, 1 << 63, justOver, math.MaxUint64 - 1, math.MaxUint64,
}

// slowMix is the specification in unbounded integers, cut to 64 bits behind each operation.
func slowMix(n uint64) uint64 {
	x := new(big.Int).SetUint64(n)
	x = cut(x.Add(x, number(golden)))
	x = fold(x, 30)
	x = cut(x.Mul(x, number(0xbf58476d1ce4e5b9)))
	x = fold(x, 27)
	x = cut(x.Mul(x, number(0x94d049bb133111eb)))
	return fold(x, 31).Uint64()
}

func number(n uint64) *big.Int { return new(big.Int).SetUint64(n) }

func cut(x *big.Int) *big.Int {
	return new(big.Int).Mod(x, new(big.Int).Lsh(big.NewInt(1), 64))
}

func fold(x *big.Int, by uint) *big.Int {
	return new(big.Int).Xor(x, new(big.Int).Rsh(x, by))
}

// unmix is the inverse of Mix: with it a test makes a tape whose draw is whatever it needs.
func unmix(n uint64) uint64 {
	n = unfold(n, 31) * inverse(0x94d049bb133111eb)
	n = unfold(n, 27) * inverse(0xbf58476d1ce4e5b9)
	return unfold(n, 30) - golden
}

func unfold(n uint64, by int) uint64 {
	x := n
	for range 64/by + 1 {
		x = n ^ x>>by
	}
	return x
}

// inverse is the inverse of an odd number modulo 2^64; each turn doubles the bits that are right.
func inverse(n uint64) uint64 {
	x := n
	for range 6 {
		x *= 2 - n*x
	}
	return x
}

// tapeOf is a tape with the given draw.
func tapeOf(draw uint64) api.Tape {
	t := api.Tape{Walker: 11, Step: 22, Attempt: 33}
	n := unmix(draw) ^ t.Attempt
	n = unmix(n) ^ t.Step
	n = unmix(n) ^ t.Walker
	t.Seed = unmix(n)
	return t
}

// slowBelow is the specification of a draw below n, and how many numbers it passes over.
func slowBelow(t api.Tape, n uint64) (uint64, int) {
	top := new(big.Int).Lsh(big.NewInt(1), 64)
	top.Sub(top, new(big.Int).Mod(top, number(n)))
	x := Draw(t)
	passed := 0
	for number(x).Cmp(top) >= 0 && passed < 127 {
		x = slowMix(x)
		passed++
	}
	return x % n, passed
}

func take(s iter.Seq[uint64], most int) []uint64 {
	var l []uint64
	for x := range s {
		l = append(l, x)
		if len(l) == most {
			break
		}
	}
	return l
}

// TestExample: P1.1, the example of the chapter.
func TestExample(t *testing.T) {
	if got := Mix(0); got != 0xe220a8397b1dcdaf {
		t.Errorf("Mix(0) is %#x", got)
	}
}

// TestMixKnown: P1.1, against values that were computed by another program.
func TestMixKnown(t *testing.T) {
	known := []struct{ n, want uint64 }{
		{1, 0x910a2dec89025cc1},
		{2, 0x975835de1c9756ce},
		{123456789, 0x223c74d93deb7679},
		{1 << 63, 0x481ec0a212a9f3db},
		{golden, 0x6e789e6aa1b965f4},
		{1<<64 - golden, 0}, // the addition wraps round to 0, which the rest leaves 0
		{math.MaxUint64, 0xe4d971771b652c20},
	}
	for _, k := range known {
		if got := Mix(k.n); got != k.want {
			t.Errorf("Mix(%#x) is %#x, not %#x", k.n, got, k.want)
		}
	}
}

// TestMixSpecified: P1.1, against the specification, at the edges and at many other numbers.
func TestMixSpecified(t *testing.T) {
	l := slices.Clone(some)
	for i := range uint64(64) {
		l = append(l, 1<<i, ^uint64(1<<i), i*golden)
	}
	for _, n := range l {
		if got, want := Mix(n), slowMix(n); got != want {
			t.Errorf("Mix(%#x) is %#x, not %#x", n, got, want)
		}
	}
}

// TestDrawKnown: P1.1, every part of a tape counts, and in its own place.
func TestDrawKnown(t *testing.T) {
	const most = math.MaxUint64
	known := []struct {
		tape api.Tape
		want uint64
	}{
		{api.Tape{}, 0x2130748aaac80268},
		{api.Tape{Seed: 1}, 0xe28195ddd9ee4956},
		{api.Tape{Walker: 1}, 0xd1c0270687984b37},
		{api.Tape{Step: 1}, 0xd9eef7f073d37c42},
		{api.Tape{Attempt: 1}, 0x2a4f111b3be57715},
		{api.Tape{Seed: 1, Walker: 2, Step: 3, Attempt: 4}, 0xd55ccd4aeb3ccafb},
		{api.Tape{Seed: 4, Walker: 3, Step: 2, Attempt: 1}, 0x47ec8a92768f8589},
		{api.Tape{Seed: most, Walker: most, Step: most, Attempt: most}, 0x9c666618c8f279d7},
	}
	for _, k := range known {
		if got := Draw(k.tape); got != k.want {
			t.Errorf("Draw(%v) is %#x, not %#x", k.tape, got, k.want)
		}
	}
}

// TestDrawAny: a tape can be made for any draw; the tests of Below lean on it.
func TestDrawAny(t *testing.T) {
	for _, want := range some {
		if got := Draw(tapeOf(want)); got != want {
			t.Errorf("the draw is %#x, not %#x", got, want)
		}
	}
}

// TestRowKnown: P1.1, a sequence starts with its draw, and each further number is the one before it, mixed.
func TestRowKnown(t *testing.T) {
	tape := api.Tape{Seed: 1, Walker: 2, Step: 3, Attempt: 4}
	want := []uint64{0xd55ccd4aeb3ccafb, 0x68055585a968b899, 0xb8482fed6de9b7fe, 0xd0b455df980ee2b9, 0xeea65918402ca67b}
	if got := take(Row(tape), 5); !slices.Equal(got, want) {
		t.Errorf("the sequence is %#x, not %#x", got, want)
	}
	for _, seed := range some {
		tape.Seed = seed
		next := Draw(tape)
		for i, x := range take(Row(tape), 10) {
			if x != next {
				t.Errorf("number %d of %v is %#x, not %#x", i, tape, x, next)
			}
			next = slowMix(x)
		}
	}
}

// TestRowEndless: P1.1, a sequence does not end by itself.
func TestRowEndless(t *testing.T) {
	const many = 1 << 20
	if got := len(take(Row(api.Tape{Seed: 3}), many)); got != many {
		t.Errorf("the sequence ended behind %d numbers", got)
	}
}

// TestRowAgain: P1.1 and P0.6, a sequence that is left early starts anew, even within itself.
func TestRowAgain(t *testing.T) {
	row := Row(api.Tape{Seed: 7, Attempt: 9})
	want := take(row, 40)
	for most := 1; most <= len(want); most++ {
		if got := take(row, most); !slices.Equal(got, want[:most]) {
			t.Fatalf("once more, the first %d numbers are %#x, not %#x", most, got, want[:most])
		}
	}
	var outer []uint64
	for x := range row {
		outer = append(outer, x)
		if got := take(row, 3); !slices.Equal(got, want[:3]) {
			t.Fatalf("within itself, the sequence is %#x, not %#x", got, want[:3])
		}
		if len(outer) == len(want) {
			break
		}
	}
	if !slices.Equal(outer, want) {
		t.Errorf("around itself, the sequence is %#x, not %#x", outer, want)
	}
}

// TestRowLeft: P1.1, a sequence that is left calls nothing any more.
func TestRowLeft(t *testing.T) {
	calls := 0
	Row(api.Tape{})(func(uint64) bool {
		calls++
		return calls < 3
	})
	if calls != 3 {
		t.Errorf("%d calls, not 3", calls)
	}
}

// TestBelowNothing: P1.1, below 0 there is nothing to draw, and below 1 there is 0 alone.
func TestBelowNothing(t *testing.T) {
	for _, draw := range some {
		for n := range uint64(2) {
			if got := Below(tapeOf(draw), n); got != 0 {
				t.Errorf("the draw %#x below %d is %d", draw, n, got)
			}
		}
	}
}

// TestBelowSpecified: P1.1 and P1.2, against the specification, for all bounds at the edges.
func TestBelowSpecified(t *testing.T) {
	for _, n := range some[1:] {
		for i := range uint64(200) {
			tape := api.Tape{Seed: n, Walker: i, Step: i * i, Attempt: ^i}
			got := Below(tape, n)
			if want, _ := slowBelow(tape, n); got != want {
				t.Errorf("the draw of %v below %d is %d, not %d", tape, n, got, want)
			}
			if got >= n {
				t.Errorf("the draw of %v below %d is %d", tape, n, got)
			}
		}
	}
}

// TestBelowPassesOver: P1.1, just above half of 2^64, where many numbers are passed over.
func TestBelowPassesOver(t *testing.T) {
	known := []uint64{1321962074176129191, 6524466148911904649, 4772042560023670877, 5053379964727357199, 7495491187389282457, 3655974310320967256}
	for i, want := range known {
		tape := api.Tape{Seed: 1, Walker: 2, Step: 3, Attempt: uint64(i)}
		if got := Below(tape, justOver); got != want {
			t.Errorf("the draw of %v is %d, not %d", tape, got, want)
		}
	}
	longest, all := 0, 0
	for i := range uint64(4000) {
		tape := api.Tape{Walker: i}
		want, passed := slowBelow(tape, justOver)
		longest = max(longest, passed)
		all += passed
		if got := Below(tape, justOver); got != want {
			t.Errorf("behind %d numbers passed over, the draw of %v is %d, not %d", passed, tape, got, want)
		}
	}
	if longest < 8 || all < 3000 {
		t.Errorf("too few numbers were passed over: %d in all, %d at most", all, longest)
	}
}

// TestBelowLastMultiple: P1.1, the greatest multiple of n is the first number that is passed over.
func TestBelowLastMultiple(t *testing.T) {
	for _, n := range some[1:] {
		rest := -n % n // what is left of 2^64 above the greatest multiple
		last := math.MaxUint64 - rest
		if got, want := Below(tapeOf(last), n), n-1; got != want {
			t.Errorf("the draw %#x below %d is %d, not %d", last, n, got, want)
		}
		if rest == 0 {
			continue
		}
		for _, over := range []uint64{last + 1, math.MaxUint64} {
			want, passed := slowBelow(tapeOf(over), n)
			if passed == 0 {
				t.Fatalf("the draw %#x below %d should be passed over", over, n)
			}
			if got := Below(tapeOf(over), n); got != want {
				t.Errorf("the draw %#x below %d is %d, not %d", over, n, got, want)
			}
		}
	}
}

// TestBelowTries: P1.1, only the first 128 numbers count: the last of them is taken even if it is above.
func TestBelowTries(t *testing.T) {
	cases := []struct {
		name  string
		first int // the place of the first number that is not passed over, from 0
		want  uint64
		seen  int
	}{
		{"the first one", 0, 5, 1},
		{"the second one", 1, 5, 2},
		{"the 127th", 126, 5, 127},
		{"the 128th", 127, 5, 128},
		{"the 129th", 128, (math.MaxUint64 - 127) % justOver, 128},
		{"none", math.MaxInt, (math.MaxUint64 - 127) % justOver, 128},
	}
	for _, c := range cases {
		seen := 0
		row := func(yield func(uint64) bool) {
			for i := 0; ; i++ {
				seen++
				x := math.MaxUint64 - uint64(i)
				if i == c.first {
					x = 5
				}
				if !yield(x) {
					return
				}
			}
		}
		if got := firstBelow(row, justOver); got != c.want || seen != c.seen {
			t.Errorf("%s: %d of %d numbers, not %d of %d", c.name, got, seen, c.want, c.seen)
		}
	}
}

// TestBelowPower: P1.2, below 2^k a draw has its lowest k bits.
func TestBelowPower(t *testing.T) {
	for k := range 64 {
		n := uint64(1) << k
		for _, draw := range some {
			if got, want := Below(tapeOf(draw), n), draw&(n-1); got != want {
				t.Errorf("the draw %#x below 2^%d is %#x, not %#x", draw, k, got, want)
			}
		}
		for i := range uint64(50) {
			tape := api.Tape{Seed: i, Step: 3}
			if got, want := Below(tape, n), Draw(tape)&(n-1); got != want {
				t.Errorf("the draw of %v below 2^%d is %#x, not %#x", tape, k, got, want)
			}
		}
	}
}

// TestBelowEven: P1.2, draws below a small number come to all of its numbers about equally often, and to no other.
func TestBelowEven(t *testing.T) {
	for n := uint64(2); n <= 7; n++ {
		seen := make([]int, n)
		for i := range 1000 * n {
			got := Below(api.Tape{Seed: 5, Walker: i}, n)
			if got >= n {
				t.Fatalf("a draw below %d is %d", n, got)
			}
			seen[got]++
		}
		for x, c := range seen {
			if c < 850 || c > 1150 {
				t.Errorf("below %d, %d was drawn %d times of about 1000", n, x, c)
			}
		}
	}
}
