package pick

import (
	"iter"
	"math"
	"palmer/alias"
	"palmer/api"
	"palmer/mix"
	"slices"
	"testing"
)

const (
	last     = math.MaxUint32 // the greatest number of a vertex, and the greatest Other
	greatest = 1<<31 - 1      // the greatest sum of weights
	most     = math.MaxUint64 // the greatest number
)

// dice gives numbers without a pattern, the same in each run.
type dice struct{ n uint64 }

func (d *dice) number() uint64 {
	d.n++
	return mix.Mix(d.n)
}

func (d *dice) below(n int) int {
	return int(d.number() % uint64(n))
}

// sequences yields all sequences of up to that many things of some kinds.
func sequences[T any](most int, kinds []T) iter.Seq[[]T] {
	return func(yield func([]T) bool) {
		l := [][]T{nil}
		for range most + 1 {
			var next [][]T
			for _, one := range l {
				if !yield(one) {
					return
				}
				for _, kind := range kinds {
					next = append(next, append(slices.Clip(one), kind))
				}
			}
			l = next
		}
	}
}

// weighing are arcs of these weights, to every third vertex.
func weighing(weights ...uint32) []api.Arc {
	var l []api.Arc
	for i, weight := range weights {
		l = append(l, api.Arc{To: 5 + 3*uint32(i), Weight: weight})
	}
	return l
}

// someWeights are weights up to a greatest one, many of them small.
func someWeights(d *dice, count int, most uint64) []uint32 {
	var l []uint32
	for range count {
		l = append(l, uint32(1+d.number()>>1%most>>d.below(12)))
	}
	return l
}

// fullWeights are weights whose sum is MaxWeight, most of it somewhere among them.
func fullWeights(d *dice, count int) []uint32 {
	weights := someWeights(d, count-1, 1<<25)
	left := greatest - uint32(slowSum(weighing(weights...)))
	return slices.Insert(weights, d.below(count), left)
}

// table is made of the Cuts and Others of its cells, in turns.
func table(numbers ...uint64) []api.Cell {
	var t []api.Cell
	for i := 0; i < len(numbers); i += 2 {
		t = append(t, api.Cell{Cut: numbers[i], Other: uint32(numbers[i+1])})
	}
	return t
}

// built is the table that Build returns.
func built(t *testing.T, l []api.Arc) []api.Cell {
	t.Helper()
	cells, err := alias.Build(l)
	if err != api.OK {
		t.Fatalf("the table of %v has error %d", front(l), err)
	}
	return cells
}

// formless are arcs that are no list of neighbours, or none.
var formless = [][]api.Arc{
	nil,
	{},
	make([]api.Arc, 0, 3),
	{{To: 5, Weight: 1}, {To: 4, Weight: 1}},
	{{To: 3, Weight: 1}, {To: 5, Weight: 1}, {To: 4, Weight: 1}},
	{{To: 5, Weight: 1}, {To: 3, Weight: 1}, {To: 4, Weight: 1}},
	{{To: last, Weight: 1}, {To: 0, Weight: 1}},
	{{To: 5, Weight: 1}, {To: 5, Weight: 1}},
	{{To: 5, Weight: 1}, {To: 5, Weight: 2}},
	{{To: 0, Weight: 1}, {To: 0, Weight: 1}},
	{{To: 4, Weight: 1}, {To: 5, Weight: 1}, {To: 5, Weight: 1}},
	{{To: 4, Weight: 1}, {To: 4, Weight: 1}, {To: 5, Weight: 1}},
	{{To: 5, Weight: 0}},
	{{To: 5, Weight: 0}, {To: 6, Weight: 1}},
	{{To: 5, Weight: 1}, {To: 6, Weight: 0}},
	{{To: 5, Weight: 1}, {To: 6, Weight: 0}, {To: 7, Weight: 1}},
	{{To: 5, Weight: greatest + 1}},
	{{To: 5, Weight: last}},
	{{To: 5, Weight: greatest}, {To: 6, Weight: 1}},
	{{To: 5, Weight: 1}, {To: 6, Weight: greatest}},
	{{To: 5, Weight: greatest - 1}, {To: 6, Weight: 1}, {To: 7, Weight: 1}},
	{{To: 5, Weight: 1 << 31}, {To: 6, Weight: 1 << 31}},                     // in 32 bits their sum would be 0
	{{To: 5, Weight: 1 << 31}, {To: 6, Weight: 1 << 31}, {To: 7, Weight: 3}}, // and 3
	{{To: 5, Weight: last}, {To: 6, Weight: 2}},                              // and 1
}

// slowSum is the sum of weights; no test has so many that it exceeds 64 bits, d times it neither.
func slowSum(l []api.Arc) uint64 {
	sum := uint64(0)
	for _, a := range l {
		sum += uint64(a.Weight)
	}
	return sum
}

// slowNeighbours is what the chapter wants: neighbours, and at least one.
func slowNeighbours(l []api.Arc) bool {
	for i, a := range l {
		if a.Weight == 0 || i > 0 && a.To <= l[i-1].To {
			return false
		}
	}
	return len(l) > 0 && slowSum(l) <= greatest
}

// slowTotal is how many draws there are by the chapter.
func slowTotal(l []api.Arc) uint64 {
	if !slowNeighbours(l) {
		return 0
	}
	return slowSum(l) * uint64(len(l))
}

// slowStart is the first number of a neighbour's interval, and behind the last neighbour that of one more, by the chapter.
func slowStart(l []api.Arc, to int) uint64 {
	return slowSum(l[:to]) * uint64(len(l))
}

// slowInterval is the neighbour that a number selects by intervals, by the chapter.
func slowInterval(l []api.Arc, y uint64) (int, bool) {
	for i := 0; i < len(l) && slowNeighbours(l); i++ {
		if slowStart(l, i) <= y && y < slowStart(l, i+1) {
			return i, true
		}
	}
	return 0, false
}

// slowAlias is the neighbour that a draw selects by a table, by the chapter: the draws of each cell are looked at.
func slowAlias(l []api.Arc, cells []api.Cell, x uint64) (int, bool) {
	if x >= slowTotal(l) || len(cells) != len(l) {
		return 0, false
	}
	w := slowSum(l)
	for i, c := range cells {
		if first := uint64(i) * w; x < first || x-first >= w {
			continue
		} else if x-first < c.Cut {
			return i, true
		}
		if int64(c.Other) < int64(len(l)) {
			return int(c.Other), true
		}
	}
	return 0, false
}

// slowBelow is how many draws below x select a neighbour, cell by cell.
func slowBelow(cells []api.Cell, w uint64, to int, x uint64) uint64 {
	n := uint64(0)
	for i, c := range cells {
		here := min(x-min(x, uint64(i)*w), w) // so many draws of the cell are below x
		own := min(here, c.Cut)
		if i == to {
			n += own
		}
		if int64(c.Other) == int64(to) {
			n += here - own
		}
	}
	return n
}

// slowMay is whether a table is correct by the chapter of tables.
func slowMay(l []api.Arc, cells []api.Cell) bool {
	if !slowNeighbours(l) || len(l) != len(cells) {
		return false
	}
	w := slowSum(l)
	for _, c := range cells {
		if c.Cut > w || int64(c.Other) >= int64(len(l)) {
			return false
		}
	}
	for i, a := range l {
		if slowBelow(cells, w, i, slowTotal(l)) != uint64(len(l))*uint64(a.Weight) {
			return false
		}
	}
	return true
}

// slowNumber is the number to which a draw of a correct table is mapped, by the chapter.
func slowNumber(l []api.Arc, cells []api.Cell, x uint64) uint64 {
	to, _ := slowAlias(l, cells, x)
	return slowStart(l, to) + slowBelow(cells, slowSum(l), to, x)
}

// front is the beginning of a list, to be shown.
func front[T any](l []T) []T {
	return l[:min(len(l), 10)]
}

// strange are numbers that are not below a total, some of which would be in fewer bits.
func strange(total uint64) []uint64 {
	l := []uint64{total, total + 1, 2*total - 1, 2 * total, most - 1, most}
	for _, high := range []uint64{1 << 62, 1 << 63, 1<<63 + 1} {
		l = append(l, high, high+total/2)
	}
	if total <= 1<<32 {
		l = append(l, 1<<32, 1<<32+1, 1<<32+total-1, 5<<32)
	}
	return l
}

// wantInterval: P17.1, the neighbour that a number selects by intervals.
func wantInterval(t *testing.T, l []api.Arc, y uint64, want int, ok bool) {
	t.Helper()
	if got, is := Interval(l, y); got != want || is != ok {
		t.Fatalf("Interval(%v, %d) is %d and %v, not %d and %v", front(l), y, got, is, want, ok)
	}
}

// wantAlias: P17.1, the neighbour that a draw selects by a table.
func wantAlias(t *testing.T, l []api.Arc, cells []api.Cell, x uint64, want int, ok bool) {
	t.Helper()
	if got, is := Alias(l, cells, x); got != want || is != ok {
		t.Fatalf("Alias(%v, %v, %d) is %d and %v, not %d and %v", front(l), front(cells), x, got, is, want, ok)
	}
}

// wantRemap: P17.1, the number to which a draw is mapped.
func wantRemap(t *testing.T, l []api.Arc, cells []api.Cell, x, want uint64, ok bool) {
	t.Helper()
	if got, is := Remap(l, cells, x); got != want || is != ok {
		t.Fatalf("Remap(%v, %v, %d) is %d and %v, not %d and %v", front(l), front(cells), x, got, is, want, ok)
	}
}

// wantBack: P17.1, the draw that is mapped to a number.
func wantBack(t *testing.T, l []api.Arc, cells []api.Cell, y, want uint64, ok bool) {
	t.Helper()
	if got, is := Back(l, cells, y); got != want || is != ok {
		t.Fatalf("Back(%v, %v, %d) is %d and %v, not %d and %v", front(l), front(cells), y, got, is, want, ok)
	}
}

// wantNone: P17.1 and P0.2, neither draws nor numbers are mapped, below the total and beyond it.
func wantNone(t *testing.T, l []api.Arc, cells []api.Cell) {
	t.Helper()
	numbers := strange(slowTotal(l))
	for n := range min(slowTotal(l), 60) {
		numbers = append(numbers, n, slowTotal(l)-1-n)
	}
	for _, n := range append(numbers, 0, 1, 2) {
		wantRemap(t, l, cells, n, 0, false)
		wantBack(t, l, cells, n, 0, false)
	}
}

// wantWrong: P17.1, a table is not correct, so nothing is mapped by it.
func wantWrong(t *testing.T, l []api.Arc, cells []api.Cell) {
	t.Helper()
	if slowMay(l, cells) {
		t.Errorf("by the chapter, %v is correct for %v", front(cells), front(l))
	}
	wantNone(t, l, cells)
}

// wantBeyond: P17.1, what is not below the total selects nothing and is not mapped.
func wantBeyond(t *testing.T, l []api.Arc, cells []api.Cell) {
	t.Helper()
	for _, n := range strange(slowTotal(l)) {
		wantInterval(t, l, n, 0, false)
		wantAlias(t, l, cells, n, 0, false)
		wantRemap(t, l, cells, n, 0, false)
		wantBack(t, l, cells, n, 0, false)
	}
}

// wantDraws: P17.1 and P17.2, all draws of a correct table, counted one by one: each is mapped into the interval of the neighbour that it selects,
// behind the draws below it that select that neighbour, and back; and each number below the total comes from exactly one draw.
func wantDraws(t *testing.T, l []api.Arc, cells []api.Cell) {
	t.Helper()
	total := slowTotal(l)
	if total == 0 || !slowMay(l, cells) {
		t.Fatalf("%v is not correct for %v", front(cells), front(l))
	}
	seen, images := make([]uint64, len(l)), make([]int, total)
	for x := range total {
		to, _ := slowAlias(l, cells, x)
		y := slowStart(l, to) + seen[to]
		seen[to]++
		wantMapped(t, l, cells, x, y)
		images[y]++
	}
	for y, n := range images {
		x, ok := Back(l, cells, uint64(y))
		if n != 1 || !ok {
			t.Fatalf("of %v and %v, %d draws are mapped to %d", front(l), front(cells), n, y)
		}
		wantRemap(t, l, cells, x, uint64(y), true)
	}
	wantBeyond(t, l, cells)
}

// wantPlaces: P17.1 and P17.2, the same for some draws and numbers of a correct table that has too many of them.
func wantPlaces(t *testing.T, l []api.Arc, cells []api.Cell, places []uint64) {
	t.Helper()
	if !slowMay(l, cells) {
		t.Fatalf("%v is not correct for %v", front(cells), front(l))
	}
	for _, n := range places {
		wantMapped(t, l, cells, n, slowNumber(l, cells, n))
		x, ok := Back(l, cells, n)
		if mapped := slowNumber(l, cells, x); !ok || mapped != n {
			t.Fatalf("Back(%v, %v, %d) is %d and %v, which is mapped to %d", front(l), front(cells), n, x, ok, mapped)
		}
		wantMapped(t, l, cells, x, n)
	}
	wantBeyond(t, l, cells)
}

// wantMapped: P17.1 and P17.2, a draw of a correct table is mapped to a number, and back, and they select the same neighbour.
func wantMapped(t *testing.T, l []api.Arc, cells []api.Cell, x, y uint64) {
	t.Helper()
	to, _ := slowAlias(l, cells, x)
	if y < slowStart(l, to) || y >= slowStart(l, to+1) {
		t.Fatalf("of %v and %v, %d is not in the interval of %d, which %d selects", front(l), front(cells), y, to, x)
	}
	wantAlias(t, l, cells, x, to, true)
	wantRemap(t, l, cells, x, y, true)
	wantBack(t, l, cells, y, x, true)
	wantInterval(t, l, y, to, true)
}

// edges are the first and the last draw of each cell, those about its Cut, and the first and the last number of each interval; all below the total.
func edges(l []api.Arc, cells []api.Cell) []uint64 {
	places := []uint64{0, slowTotal(l) - 1}
	w := slowSum(l)
	for i, c := range cells {
		first := uint64(i) * w
		places = append(places, first, first+w-1, slowStart(l, i), slowStart(l, i+1)-1)
		if c.Cut > 0 {
			places = append(places, first+c.Cut-1)
		}
		if c.Cut < w {
			places = append(places, first+c.Cut)
		}
	}
	return places
}
