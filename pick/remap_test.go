package pick

import (
	"palmer/api"
	"slices"
	"testing"
)

// TestExample: P17.1 and P17.2, the example of the chapter: the draws 0 to 7 are mapped to themselves.
func TestExample(t *testing.T) {
	l := weighing(1, 3)
	cells := built(t, l)
	for x := range uint64(8) {
		wantRemap(t, l, cells, x, x, true)
		wantBack(t, l, cells, x, x, true)
	}
	wantDraws(t, l, cells)
}

// knownNumbers are the numbers of all draws by correct tables, worked out by hand.
var knownNumbers = []struct {
	weights []uint32
	cells   []api.Cell
	want    []uint64
}{
	{[]uint32{1}, table(1, 0), []uint64{0}},
	{[]uint32{1}, table(0, 0), []uint64{0}},
	{[]uint32{3}, table(1, 0), []uint64{0, 1, 2}},
	// those that Build returns
	{[]uint32{1, 3}, table(2, 1, 4, 1), []uint64{0, 1, 2, 3, 4, 5, 6, 7}},
	{[]uint32{3, 1}, table(4, 0, 2, 0), []uint64{0, 1, 2, 3, 6, 7, 4, 5}},
	{[]uint32{2, 2}, table(4, 0, 4, 1), []uint64{0, 1, 2, 3, 4, 5, 6, 7}},
	{[]uint32{3, 3, 1}, table(5, 1, 7, 1, 3, 0), []uint64{0, 1, 2, 3, 4, 9, 10, 11, 12, 13, 14, 15, 16, 17, 18, 19, 20, 5, 6, 7, 8}},
	// the draws of one neighbour are in its own cell and in those in front of it, behind it, and on both sides
	{[]uint32{1, 1, 4}, table(3, 2, 3, 2, 6, 2), []uint64{0, 1, 2, 6, 7, 8, 3, 4, 5, 9, 10, 11, 12, 13, 14, 15, 16, 17}},
	{[]uint32{4, 1, 1}, table(6, 0, 3, 0, 3, 0), []uint64{0, 1, 2, 3, 4, 5, 12, 13, 14, 6, 7, 8, 15, 16, 17, 9, 10, 11}},
	{[]uint32{1, 4, 1}, table(3, 1, 6, 1, 3, 1), []uint64{0, 1, 2, 3, 4, 5, 6, 7, 8, 9, 10, 11, 15, 16, 17, 12, 13, 14}},
	// cells that give some of their draws, or all, to another one that does so too
	{[]uint32{1, 3}, table(0, 1, 2, 0), []uint64{2, 3, 4, 5, 6, 7, 0, 1}},
	{[]uint32{1, 3}, table(1, 1, 3, 0), []uint64{0, 2, 3, 4, 5, 6, 7, 1}},
	{[]uint32{2, 2}, table(1, 1, 1, 0), []uint64{0, 4, 5, 6, 7, 1, 2, 3}},
	{[]uint32{2, 2}, table(0, 1, 0, 0), []uint64{4, 5, 6, 7, 0, 1, 2, 3}},
	{[]uint32{1, 1, 1}, table(0, 1, 0, 2, 0, 0), []uint64{3, 4, 5, 6, 7, 8, 0, 1, 2}},
	{[]uint32{1, 1, 1}, table(2, 2, 3, 0, 2, 0), []uint64{0, 1, 6, 3, 4, 5, 7, 8, 2}},
	{[]uint32{1, 1, 1}, table(2, 1, 2, 2, 2, 0), []uint64{0, 1, 3, 4, 5, 6, 7, 8, 2}},
	{[]uint32{1, 1, 1}, table(2, 2, 2, 0, 2, 1), []uint64{0, 1, 6, 3, 4, 2, 7, 8, 5}},
	// a cell whose Other is its own neighbour
	{[]uint32{2, 2}, table(1, 0, 4, 0), []uint64{0, 1, 2, 3, 4, 5, 6, 7}},
	{[]uint32{2, 2}, table(0, 0, 3, 1), []uint64{0, 1, 2, 3, 4, 5, 6, 7}},
	{[]uint32{3, 1}, table(1, 0, 2, 0), []uint64{0, 1, 2, 3, 6, 7, 4, 5}},
}

// TestKnown: P17.1 and P17.2, the numbers of draws, and the draws of numbers, by hand.
func TestKnown(t *testing.T) {
	for _, k := range knownNumbers {
		l := weighing(k.weights...)
		for x, y := range k.want {
			wantRemap(t, l, k.cells, uint64(x), y, true)
			wantBack(t, l, k.cells, y, uint64(x), true)
		}
		if uint64(len(k.want)) != slowTotal(l) {
			t.Errorf("there are %d draws of %v", slowTotal(l), l)
		}
		wantDraws(t, l, k.cells)
	}
}

// TestShort: P17.1 and P17.2, the tables that Build returns for all lists of at most five small weights, draw by draw.
func TestShort(t *testing.T) {
	for weights := range sequences(5, []uint32{1, 2, 3, 7}) {
		if l := weighing(weights...); len(l) > 0 {
			wantDraws(t, l, built(t, l))
		}
	}
}

// TestTables: P17.1 and P17.2, all tables of two and three small neighbours, those with a Cut and an Other too great among them: the correct ones
// draw by draw, of the others no draw and no number.
func TestTables(t *testing.T) {
	correct, wrong := 0, 0
	for _, weights := range [][]uint32{{1}, {2}, {1, 1}, {1, 2}, {2, 1}, {1, 3}, {2, 2}, {1, 1, 1}, {2, 1, 1}, {1, 1, 2}} {
		l := weighing(weights...)
		w := slowSum(l)
		var kinds []api.Cell
		for cut := range w + 2 {
			for other := range uint32(len(l) + 1) {
				kinds = append(kinds, api.Cell{Cut: cut, Other: other})
			}
		}
		for cells := range sequences(len(l), kinds) {
			if slowMay(l, cells) {
				wantDraws(t, l, cells)
				correct++
				continue
			}
			wrong++
			for n := range slowTotal(l) + 1 {
				wantRemap(t, l, cells, n, 0, false)
				wantBack(t, l, cells, n, 0, false)
			}
		}
	}
	if correct < 100 || wrong < 10*correct {
		t.Errorf("%d tables are correct, and %d are not", correct, wrong)
	}
}

// someTable is a correct table, made as Build makes one but of whichever neighbours lack draws and have too many; then whole cells give draws to
// one another in a ring, and the Others of cells that need none are any.
func someTable(d *dice, l []api.Arc) []api.Cell {
	w := slowSum(l)
	cells := make([]api.Cell, len(l))
	var less, more, whole []int
	rests := make([]uint64, len(l))
	sort := func(i int) {
		switch {
		case rests[i] < w:
			less = append(less, i)
		case rests[i] > w:
			more = append(more, i)
		default:
			whole = append(whole, i)
		}
	}
	for i, a := range l {
		rests[i] = uint64(len(l)) * uint64(a.Weight)
		sort(i)
	}
	for len(less) > 0 {
		i, j := drawn(d, &less), drawn(d, &more)
		cells[i] = api.Cell{Cut: rests[i], Other: uint32(j)}
		rests[j] -= w - rests[i]
		sort(j)
	}
	for _, i := range whole {
		cells[i] = api.Cell{Cut: w, Other: uint32(d.below(len(l)))}
	}
	for len(whole) > 1 {
		ring(d, cells, w, &whole)
	}
	return cells
}

// ring takes some of the whole cells, each of which gives as many draws to the next one of them.
func ring(d *dice, cells []api.Cell, w uint64, whole *[]int) {
	first := drawn(d, whole)
	cut, at := d.number()%(w+1), first
	for range 1 + d.below(len(*whole)) {
		next := drawn(d, whole)
		cells[at] = api.Cell{Cut: cut, Other: uint32(next)}
		at = next
	}
	cells[at] = api.Cell{Cut: cut, Other: uint32(first)}
}

// drawn takes any of some numbers out of them.
func drawn(d *dice, l *[]int) int {
	at := d.below(len(*l))
	one := (*l)[at]
	*l = slices.Delete(*l, at, at+1)
	return one
}

// amid is how many neighbours have draws in their own cell and on both sides of it.
func amid(cells []api.Cell, w uint64) int {
	n := 0
	gives := func(to int) func(api.Cell) bool {
		return func(c api.Cell) bool { return c.Cut < w && int(c.Other) == to }
	}
	for i, c := range cells {
		if c.Cut > 0 && slices.ContainsFunc(cells[:i], gives(i)) && slices.ContainsFunc(cells[i+1:], gives(i)) {
			n++
		}
	}
	return n
}

// TestMany: P17.1 and P17.2, one neighbour to sixty, by the table that Build returns and by correct ones that are not that one.
func TestMany(t *testing.T) {
	d := &dice{}
	both, others := 0, 0
	for round := range 900 {
		count := 1 + d.below(1+round/15)
		for _, most := range []uint64{3, 12, 1000, greatest / 61} {
			l := weighing(someWeights(d, count, most)...)
			first := built(t, l)
			for _, cells := range [][]api.Cell{first, someTable(d, l)} {
				both += amid(cells, slowSum(l))
				if !slices.Equal(cells, first) {
					others++
				}
				if slowTotal(l) < 300 {
					wantDraws(t, l, cells)
				} else {
					wantPlaces(t, l, cells, someOf(d, edges(l, cells), 30))
				}
			}
		}
	}
	if both < 1000 || others < 2000 {
		t.Errorf("%d neighbours have draws on both sides of their cells, and %d tables are not those that Build returns", both, others)
	}
}

// someOf are some of these numbers, and others between them.
func someOf(d *dice, places []uint64, count int) []uint64 {
	var l []uint64
	total := slices.Max(places) + 1
	for range count {
		l = append(l, places[d.below(len(places))], d.number()%total)
	}
	return append(l, 0, total-1)
}

// TestGreatest: P17.1 and P17.2, weights whose sum is MaxWeight, of one neighbour to forty, at the edges of cells and intervals and between them.
func TestGreatest(t *testing.T) {
	d := &dice{1 << 42}
	lists := [][]api.Arc{weighing(greatest), weighing(1, greatest-1), weighing(greatest-1, 1), weighing(1<<30, 1<<30-1), weighing(1, greatest-2, 1)}
	for range 150 {
		lists = append(lists, weighing(fullWeights(d, 1+d.below(40))...))
	}
	for _, l := range lists {
		for _, cells := range [][]api.Cell{built(t, l), someTable(d, l), someTable(d, l)} {
			places := edges(l, cells)
			if len(l) > 4 {
				places = someOf(d, places, 40)
			}
			wantPlaces(t, l, cells, append(places, someOf(d, places, 10)...))
		}
	}
	// by hand: the second cell gives its last draw to the first neighbour, whose number is the last one of its interval
	l, cells := weighing(1, greatest-1), table(1, 1, greatest-1, 0)
	for _, k := range [][2]uint64{{0, 0}, {1, 2}, {2, 3}, {greatest, greatest + 1}, {2*greatest - 2, 2*greatest - 1}, {2*greatest - 1, 1}} {
		wantRemap(t, l, cells, k[0], k[1], true)
		wantBack(t, l, cells, k[1], k[0], true)
	}
}

// TestWide: P17.1 and P17.2, as many neighbours as a text has edges at most, with the greatest sum.
func TestWide(t *testing.T) {
	d := &dice{1 << 43}
	l := weighing(append(someWeights(d, api.MaxEdges-1, 1<<14), 0)...)
	l[len(l)-1].Weight = uint32(greatest - slowSum(l))
	cells := built(t, l)
	w, total := uint64(greatest), uint64(greatest)<<16
	for range 60 {
		i := d.below(len(l))
		for _, x := range []uint64{uint64(i) * w, uint64(i)*w + cells[i].Cut - 1, uint64(i)*w + cells[i].Cut%w, uint64(i)*w + w - 1, d.number() % total} {
			wantMapped(t, l, cells, x, slowNumber(l, cells, x))
		}
	}
	wantBeyond(t, l, cells)
}

// TestWrongCells: P17.1, a table with a cell less or more.
func TestWrongCells(t *testing.T) {
	l := weighing(1, 3)
	wantDraws(t, l, table(2, 1, 4, 1))
	for _, cells := range [][]api.Cell{nil, {}, table(2, 1), table(4, 1), table(2, 1, 4, 1, 0, 0), table(2, 1, 4, 1, 4, 1), table(2, 1, 4, 1, 4, 2)} {
		wantWrong(t, l, cells)
	}
	wantWrong(t, weighing(1), nil)
	wantWrong(t, weighing(1), table(1, 0, 1, 0))
	wantWrong(t, weighing(1, 1), table(1, 0))
	wantWrong(t, weighing(1, 1), table(2, 0, 2, 1, 2, 2))
}

// TestWrongCut: P17.1, a Cut that exceeds W, even where the draws select the right neighbours, as they would with a Cut of W.
func TestWrongCut(t *testing.T) {
	for _, cut := range []uint64{5, 6, 8, 1 << 31, 1 << 32, 1<<32 + 4, 1 << 63, most - 4, most} {
		wantWrong(t, weighing(1, 3), table(2, 1, cut, 1))
		wantWrong(t, weighing(2, 2), table(cut, 0, 4, 1))
		wantWrong(t, weighing(4), table(cut, 0))
		wantWrong(t, weighing(4), table(cut, 1))
	}
	wantWrong(t, weighing(1, 3), table(6, 0, 4, 1))
	wantWrong(t, weighing(2, 2), table(6, 1, 6, 0))
	wantDraws(t, weighing(4), table(4, 0))
}

// TestWrongOther: P17.1, an Other that does not exist, even where no draw selects it.
func TestWrongOther(t *testing.T) {
	wantDraws(t, weighing(2, 2), table(4, 1, 4, 1))
	for _, other := range []uint64{2, 3, 4, 255, 256, 1 << 16, 1<<31 - 1, 1 << 31, last - 1, last} {
		wantWrong(t, weighing(2, 2), table(4, other, 4, 1))
		wantWrong(t, weighing(2, 2), table(4, 0, 4, other))
		wantWrong(t, weighing(1, 3), table(2, other, 4, 1))
		wantWrong(t, weighing(1, 3), table(2, 1, 4, other))
		wantWrong(t, weighing(4), table(4, other))
		wantWrong(t, weighing(4), table(0, other))
	}
	wantWrong(t, weighing(4), table(4, 1))
}

// TestWrongDraws: P17.1, one neighbour is selected by one draw too many, and another one by one too few.
func TestWrongDraws(t *testing.T) {
	for _, cells := range [][]api.Cell{table(3, 1, 4, 1), table(1, 1, 4, 1), table(2, 1, 3, 0), table(1, 1, 2, 0), table(0, 1, 3, 0), table(2, 0, 4, 1)} {
		wantWrong(t, weighing(1, 3), cells)
	}
	wantWrong(t, weighing(3, 1), table(2, 1, 4, 1))
	wantWrong(t, weighing(2, 2, 2), table(5, 1, 5, 2, 6, 0))
	wantWrong(t, weighing(2, 2, 2), table(5, 1, 5, 1, 5, 0))
	wantWrong(t, weighing(1, greatest-1), table(3, 1, greatest, 1))
	wantWrong(t, weighing(1, greatest-1), table(1, 1, greatest, 1))
	d := &dice{1 << 44}
	for range 400 {
		l := weighing(someWeights(d, 2+d.below(20), 1000)...)
		for _, cells := range [][]api.Cell{built(t, l), someTable(d, l)} {
			at := d.below(len(cells))
			if cells[at].Other == uint32(at) {
				cells[at].Other = uint32(at+1) % uint32(len(l))
			}
			cells[at].Cut += 1 - 2*min(cells[at].Cut, 1)
			wantWrong(t, l, cells)
		}
	}
}

// TestNone: P17.1, of no neighbours, and of what is no list of neighbours, nothing is mapped, whatever the cells are.
func TestNone(t *testing.T) {
	for _, l := range formless {
		w := slowSum(l)
		var own []api.Cell
		for i := range l {
			own = append(own, api.Cell{Cut: w, Other: uint32(i)})
		}
		for _, cells := range [][]api.Cell{nil, {}, table(1, 0), own, slices.Repeat(table(0, 0), len(l)), slices.Repeat(table(most, 0), len(l))} {
			wantWrong(t, l, cells)
			for _, n := range append(strange(0), strange(w*uint64(len(l)))...) {
				wantRemap(t, l, cells, n, 0, false)
				wantBack(t, l, cells, n, 0, false)
			}
		}
	}
	// these would be correct but for the order of the vertices, or for a weight, or for the sum
	wantWrong(t, []api.Arc{{To: 6, Weight: 1}, {To: 5, Weight: 3}}, table(2, 1, 4, 1))
	wantWrong(t, []api.Arc{{To: 5, Weight: 1}, {To: 5, Weight: 3}}, table(2, 1, 4, 1))
	wantWrong(t, []api.Arc{{To: 5, Weight: 0}, {To: 6, Weight: 4}}, table(0, 1, 4, 1))
	wantWrong(t, []api.Arc{{To: 5, Weight: greatest + 1}}, table(greatest+1, 0))
}

// TestAgain: P0.6, the same arguments come to the same whenever they are given.
func TestAgain(t *testing.T) {
	d := &dice{1 << 45}
	l := weighing(someWeights(d, 12, 9)...)
	cells := someTable(d, l)
	for range 10 {
		wantDraws(t, l, cells)
		other := weighing(someWeights(d, 12, 9)...)
		wantDraws(t, other, someTable(d, other))
	}
}

// TestMemory: P0.4 and P0.6, Remap and Back neither modify nor keep arcs and cells, nor what is behind them.
func TestMemory(t *testing.T) {
	for _, spare := range []int{2, 5} {
		arcs, all := weighing(1, 3, 9, 9, 9), table(1, 1, 3, 0, 7, 7, 8, 8, 9, 9)
		l, cells := arcs[:2:spare], all[:2:spare]
		wantDraws(t, l, cells)
		wantNone(t, arcs[:3], cells)
		wantNone(t, l, all[:3])
		if !slices.Equal(arcs, weighing(1, 3, 9, 9, 9)) || !slices.Equal(all, table(1, 1, 3, 0, 7, 7, 8, 8, 9, 9)) {
			t.Errorf("the arcs are %v and the cells %v now", arcs, all)
		}
		wantRemap(t, l, cells, 7, 1, true)
		wantBack(t, l, cells, 1, 7, true)
		copy(cells, table(2, 1, 4, 1))
		wantRemap(t, l, cells, 7, 7, true)
		wantBack(t, l, cells, 1, 1, true)
		cells[0].Cut = 3
		wantNone(t, l, cells)
		copy(l, weighing(3, 1))
		copy(cells, table(4, 0, 2, 0))
		wantDraws(t, l, cells)
	}
}
