package alias

import (
	"encoding/binary"
	"iter"
	"math"
	"math/big"
	"palmer/api"
	"palmer/mix"
	"palmer/varint"
	"slices"
	"testing"
)

const (
	last     = math.MaxUint32 // the greatest number of a vertex, and the greatest Other
	greatest = 1<<31 - 1      // the greatest sum of weights
	most     = math.MaxUint64 // the greatest number
)

// dice gives numbers without a pattern, the same in each run.
type dice struct{ n uint64 }

func (d *dice) number() uint64 {
	d.n++
	return mix.Mix(d.n)
}

func (d *dice) below(n int) int {
	return int(d.number() % uint64(n))
}

// sequences yields all sequences of up to that many things of some kinds.
func sequences[T any](most int, kinds []T) iter.Seq[[]T] {
	return func(yield func([]T) bool) {
		l := [][]T{nil}
		for range most + 1 {
			var next [][]T
			for _, one := range l {
				if !yield(one) {
					return
				}
				for _, kind := range kinds {
					next = append(next, append(slices.Clip(one), kind))
				}
			}
			l = next
		}
	}
}

// weighing are arcs of these weights, to every third vertex.
func weighing(weights ...uint32) []api.Arc {
	var l []api.Arc
	for i, weight := range weights {
		l = append(l, api.Arc{To: 5 + 3*uint32(i), Weight: weight})
	}
	return l
}

// table is made of the Cuts and Others of its cells, in turns.
func table(numbers ...uint64) []api.Cell {
	var t []api.Cell
	for i := 0; i < len(numbers); i += 2 {
		t = append(t, api.Cell{Cut: numbers[i], Other: uint32(numbers[i+1])})
	}
	return t
}

// slowSum is the sum of weights in unbounded integers.
func slowSum(l []api.Arc) *big.Int {
	sum := new(big.Int)
	for _, a := range l {
		sum.Add(sum, big.NewInt(int64(a.Weight)))
	}
	return sum
}

// slowNeighbours is what the chapter wants: neighbours, and at least one.
func slowNeighbours(l []api.Arc) bool {
	for i, a := range l {
		if a.Weight == 0 || i > 0 && a.To <= l[i-1].To {
			return false
		}
	}
	return len(l) > 0 && slowSum(l).Cmp(big.NewInt(greatest)) <= 0
}

// times is a product in unbounded integers.
func times(x, y uint64) *big.Int {
	n := new(big.Int).SetUint64(x)
	return n.Mul(n, new(big.Int).SetUint64(y))
}

// slowBuild is the table by the chapter: in each step all neighbours are looked at anew.
func slowBuild(l []api.Arc) []api.Cell {
	w := slowSum(l)
	cells := make([]api.Cell, len(l))
	var rests []*big.Int
	for i, a := range l {
		rests = append(rests, times(uint64(len(l)), uint64(a.Weight)))
		cells[i] = api.Cell{Cut: w.Uint64(), Other: uint32(i)}
	}
	where := func(sign int) int {
		return slices.IndexFunc(rests, func(rest *big.Int) bool { return rest.Cmp(w) == sign })
	}
	for where(-1) >= 0 {
		i, j := where(-1), where(1)
		cells[i] = api.Cell{Cut: rests[i].Uint64(), Other: uint32(j)}
		rests[j].Add(rests[j], rests[i])
		rests[j].Sub(rests[j], w)
		rests[i].Set(w)
	}
	return cells
}

// selected is the neighbour that a draw selects, by the chapter.
func selected(t []api.Cell, w, draw uint64) uint64 {
	i := draw / w
	if draw-i*w < t[i].Cut {
		return i
	}
	return uint64(t[i].Other)
}

// byDraw is how often each neighbour is selected, and by how many draws a number that is no neighbour's, draw by draw.
func byDraw(t []api.Cell, w uint64) ([]uint64, uint64) {
	n, strange := make([]uint64, len(t)), uint64(0)
	for draw := range w * uint64(len(t)) {
		if to := selected(t, w, draw); to < uint64(len(t)) {
			n[to]++
		} else {
			strange++
		}
	}
	return n, strange
}

// slowCount is how many draws select a neighbour, in unbounded integers.
func slowCount(t []api.Cell, w uint64, to int) *big.Int {
	n := new(big.Int)
	for i, c := range t {
		cut := min(c.Cut, w)
		if i == to {
			n.Add(n, new(big.Int).SetUint64(cut))
		}
		if to >= 0 && uint64(c.Other) == uint64(to) {
			n.Add(n, new(big.Int).SetUint64(w-cut))
		}
	}
	return n
}

// slowMay is whether a table is correct by the chapter.
func slowMay(l []api.Arc, t []api.Cell) bool {
	if !slowNeighbours(l) || len(l) != len(t) {
		return false
	}
	w := slowSum(l).Uint64()
	for _, c := range t {
		if c.Cut > w || int64(c.Other) >= int64(len(t)) {
			return false
		}
	}
	for i, a := range l {
		if slowCount(t, w, i).Cmp(times(uint64(len(l)), uint64(a.Weight))) != 0 {
			return false
		}
	}
	return true
}

// slowPut is the encoding of cells by the chapter, in the library's numbers.
func slowPut(t []api.Cell) string {
	var b []byte
	for _, c := range t {
		b = binary.AppendUvarint(b, c.Cut)
		b = binary.AppendUvarint(b, uint64(c.Other))
	}
	return string(b)
}

// slowGet reads cells by the chapter: numbers of any size, which are looked at afterwards.
func slowGet(r *varint.Reader, d int, w uint64) []api.Cell {
	var t []api.Cell
	for i := 0; i < d && r.Err() == api.OK; i++ {
		var c api.Cell
		if c.Cut = r.Num(most); c.Cut > w {
			r.Bad(api.ErrRange)
		}
		other := r.Num(most)
		if other >= uint64(d) || other > last {
			r.Bad(api.ErrRange)
		}
		c.Other = uint32(other)
		t = append(t, c)
	}
	if r.Err() != api.OK {
		return nil
	}
	return t
}

// front is the beginning of a list, to be shown.
func front[T any](l []T) []T {
	return l[:min(len(l), 10)]
}

// wantExact: P16.2, each neighbour is selected by exactly d times its weight of the draws, by Count and by the model of it.
func wantExact(t *testing.T, l []api.Arc, cells []api.Cell) {
	t.Helper()
	w := slowSum(l).Uint64()
	for i, a := range l {
		want := times(uint64(len(l)), uint64(a.Weight))
		if n := Count(cells, w, i); n != want.Uint64() || slowCount(cells, w, i).Cmp(want) != 0 {
			t.Fatalf("of %v neighbour %d is selected by %d draws, not %d", front(l), i, n, want)
		}
	}
}

// wantDraws: P16.2, so it is when each draw is made.
func wantDraws(t *testing.T, l []api.Arc, cells []api.Cell) {
	t.Helper()
	n, strange := byDraw(cells, slowSum(l).Uint64())
	for i, a := range l {
		if n[i] != uint64(len(l))*uint64(a.Weight) || strange > 0 {
			t.Fatalf("of %v neighbour %d is selected by %d draws, none by %d", front(l), i, n[i], strange)
		}
	}
}

// wantBuild: P16.1, P16.2 and T5, Build returns the table by the chapter, which is correct and exact, or ErrForm and none.
func wantBuild(t *testing.T, l []api.Arc) []api.Cell {
	t.Helper()
	cells, err := Build(l)
	if !slowNeighbours(l) {
		if err != api.ErrForm || len(cells) > 0 {
			t.Fatalf("Build(%v) is %v and %d, not error %d", front(l), front(cells), err, api.ErrForm)
		}
		return nil
	}
	if want := slowBuild(l); err != api.OK || !slices.Equal(cells, want) {
		t.Fatalf("Build(%v) is %v and %d, not %v", front(l), front(cells), err, front(want))
	}
	if !May(l, cells) {
		t.Fatalf("the table %v may not be that of %v", front(cells), front(l))
	}
	wantExact(t, l, cells)
	return cells
}

// wantMay: P16.1, whether a table is correct for neighbours.
func wantMay(t *testing.T, want bool, l []api.Arc, cells []api.Cell) {
	t.Helper()
	if got := slowMay(l, cells); got != want {
		t.Errorf("by the chapter, whether %v is correct for %v is %v", front(cells), front(l), got)
	}
	if got := May(l, cells); got != want {
		t.Errorf("May(%v, %v) is %v", front(l), front(cells), got)
	}
}

// wantCount: P16.1, how many draws select a neighbour.
func wantCount(t *testing.T, want uint64, cells []api.Cell, w uint64, to int) {
	t.Helper()
	slow := slowCount(cells, w, to)
	slow.And(slow, new(big.Int).SetUint64(most))
	if slow.Uint64() != want {
		t.Errorf("by the chapter, Count(%v, %d, %d) is %d, not %d", front(cells), w, to, slow, want)
	}
	if got := Count(cells, w, to); got != want {
		t.Errorf("Count(%v, %d, %d) is %d, not %d", front(cells), w, to, got, want)
	}
}

// wantGet: P16.1, cells are read from the front of a text, and so many bytes are left.
func wantGet(t *testing.T, text string, d int, w uint64, want []api.Cell, left int) {
	t.Helper()
	for _, before := range []string{"", "\x05", "\x00\xff\xff"} {
		r := varint.New([]byte(before + text))
		r.Bytes(len(before))
		if got := Get(r, d, w); !slices.Equal(got, want) || r.Err() != api.OK || r.Left() != left {
			t.Errorf("Get(%q, %d, %d) is %v with error %d and %d bytes left, not %v with %d", text, d, w, got, r.Err(), r.Left(), want, left)
		}
	}
}

// wantGetBad: P16.1 and P0.2, nothing is read, and the reader is bad with an error, then and later.
func wantGetBad(t *testing.T, text string, d int, w uint64, want api.Errno) {
	t.Helper()
	for _, before := range []string{"", "\x05", "\x00\xff\xff"} {
		r := varint.New([]byte(before + text))
		r.Bytes(len(before))
		for range 2 {
			if got := Get(r, d, w); len(got) != 0 || r.Err() != want || r.End() != want || r.Left() != 0 {
				t.Errorf("Get(%q, %d, %d) is %v with error %d and %d bytes left, not error %d", text, d, w, got, r.Err(), r.Left(), want)
			}
		}
	}
}

// wantSame: P16.1, reading a text comes to what the chapter comes to, and what is read is written in the same way.
func wantSame(t *testing.T, text string, d int, w uint64) api.Errno {
	t.Helper()
	r, slow := varint.New([]byte(text)), varint.New([]byte(text))
	got, want := Get(r, d, w), slowGet(slow, d, w)
	if !slices.Equal(got, want) || r.Err() != slow.Err() || r.Left() != slow.Left() {
		t.Fatalf("Get(%q, %d, %d) is %v with error %d and %d bytes left, not %v with %d and %d", text, d, w, got, r.Err(), r.Left(), want, slow.Err(), slow.Left())
	}
	if b := Put(nil, got); r.Err() == api.OK && string(b) != text[:len(text)-r.Left()] {
		t.Fatalf("%q is read as %v, which is written as %q", text, got, b)
	}
	return r.Err()
}
