package pick

import (
	"palmer/api"
	"slices"
	"testing"
)

// TestAliasExample: P17.1, the example of the chapter, and that of the document: of eight draws, two select the first neighbour and six the second one.
func TestAliasExample(t *testing.T) {
	l := weighing(1, 3)
	cells := built(t, l)
	for x, to := range []int{0, 0, 1, 1, 1, 1, 1, 1} {
		wantAlias(t, l, cells, uint64(x), to, true)
	}
	wantAlias(t, l, cells, 8, 0, false)
}

// TestAliasCut: P17.1, the draw before a Cut and the one at it, and the first and the last draw of each cell.
func TestAliasCut(t *testing.T) {
	// W is 7, of three neighbours
	l, cells := weighing(3, 3, 1), table(5, 1, 7, 1, 3, 0)
	for x, to := range []int{0, 0, 0, 0, 0, 1, 1, 1, 1, 1, 1, 1, 1, 1, 2, 2, 2, 0, 0, 0, 0} {
		wantAlias(t, l, cells, uint64(x), to, true)
	}
	for cut := range uint64(20) {
		for other := range uint64(3) {
			cells = table(1, 2, cut, other, 7, 0)
			for at := range uint64(7) {
				to := int(other)
				if at < cut {
					to = 1
				}
				wantAlias(t, l, cells, 7+at, to, true)
			}
			// the cells beside it do not change with it
			wantAlias(t, l, cells, 0, 0, true)
			wantAlias(t, l, cells, 6, 2, true)
			wantAlias(t, l, cells, 14, 2, true)
			wantAlias(t, l, cells, 20, 2, true)
		}
	}
}

// TestAliasCuts: P17.1, a Cut of 0, of W and of more than W, where the draws are those of the other neighbour, or of its own alone.
func TestAliasCuts(t *testing.T) {
	l := weighing(1, 3)
	for _, cut := range []uint64{4, 5, 8, 1 << 31, 1 << 32, 1<<32 + 1, 1 << 63, most - 4, most} {
		for x := range uint64(4) {
			wantAlias(t, l, table(cut, 1, 2, 0), x, 0, true)
			wantAlias(t, l, table(0, 1, cut, 0), 4+x, 1, true)
			wantAlias(t, l, table(cut, 1, 0, 0), 4+x, 0, true)
			wantAlias(t, l, table(0, 1, cut, 0), x, 1, true)
		}
	}
}

// TestAliasBeyond: P17.1, the draw before Total, and those that are not below it.
func TestAliasBeyond(t *testing.T) {
	for _, weights := range [][]uint32{{1}, {7}, {1, 3}, {3, 3, 1}, {greatest}, {1, greatest - 1}, {greatest - 2, 1, 1}} {
		l := weighing(weights...)
		cells := built(t, l)
		to, _ := slowAlias(l, cells, slowTotal(l)-1)
		wantAlias(t, l, cells, slowTotal(l)-1, to, true)
		for _, x := range strange(slowTotal(l)) {
			wantAlias(t, l, cells, x, 0, false)
		}
	}
}

// TestAliasCells: P17.1, no draw selects by a table with a cell less or more.
func TestAliasCells(t *testing.T) {
	l, cells := weighing(3, 3, 1), table(5, 1, 7, 1, 3, 0, 7, 1, 7, 1)
	for count := range len(cells) + 1 {
		for x := range uint64(30) {
			to, ok := slowAlias(l, cells[:count], x)
			if ok != (count == 3 && x < 21) {
				t.Errorf("of %d cells %d selects %d by the chapter", count, x, to)
			}
			wantAlias(t, l, cells[:count], x, to, ok)
			wantAlias(t, l, cells[:count:count], x, to, ok)
		}
	}
	wantAlias(t, weighing(1), nil, 0, 0, false)
	wantAlias(t, weighing(1), []api.Cell{}, 0, 0, false)
	wantAlias(t, weighing(1), table(1, 0, 1, 0), 0, 0, false)
}

// TestAliasOther: P17.1, an Other that does not exist: where a draw selects it, the answer is 0 and false; where none does, it is not examined.
func TestAliasOther(t *testing.T) {
	l := weighing(3, 3, 1)
	for _, other := range []uint64{3, 4, 7, 255, 256, 1 << 16, 1<<31 - 1, 1 << 31, 1<<31 + 1, last - 1, last} {
		for cut := range uint64(9) {
			cells := table(cut, other, cut, other, cut, other)
			for x := range uint64(21) {
				if x%7 < cut {
					wantAlias(t, l, cells, x, int(x/7), true)
				} else {
					wantAlias(t, l, cells, x, 0, false)
				}
			}
		}
		// of other cells, neither
		wantAlias(t, l, table(5, other, 7, other, 3, 1), 17, 1, true)
		wantAlias(t, l, table(5, 1, 7, other, 3, other), 5, 1, true)
	}
	wantAlias(t, weighing(1), table(0, 1), 0, 0, false)
	wantAlias(t, weighing(1), table(0, 0), 0, 0, true)
	wantAlias(t, weighing(1), table(1, 1), 0, 0, true)
}

// TestAliasNone: P17.1, of no neighbours, and of what is no list of neighbours, nothing is selected, whatever the cells are.
func TestAliasNone(t *testing.T) {
	for _, l := range formless {
		for _, cells := range [][]api.Cell{nil, {}, table(1, 0), slices.Repeat(table(1, 0), len(l)), slices.Repeat(table(0, 0), len(l)), slices.Repeat(table(most, 0), len(l))} {
			for _, x := range append(strange(0), strange(slowSum(l))...) {
				wantAlias(t, l, cells, x, 0, false)
			}
		}
	}
}

// TestAliasAny: P17.1, tables that no rule holds for, draw by draw, against the chapter.
func TestAliasAny(t *testing.T) {
	d := &dice{1 << 41}
	selects := [2]int{}
	for range 2000 {
		l := weighing(someWeights(d, 1+d.below(8), 12)...)
		w := slowSum(l)
		var cells []api.Cell
		for range len(l) {
			cells = append(cells, api.Cell{Cut: d.number() % (w + 3), Other: uint32(d.below(len(l) + 1))})
		}
		for x := range slowTotal(l) + 1 {
			to, ok := slowAlias(l, cells, x)
			wantAlias(t, l, cells, x, to, ok)
			if ok {
				selects[0]++
			} else {
				selects[1]++
			}
		}
	}
	if selects[0] < 10000 || selects[1] < 5000 {
		t.Errorf("%d draws selected a neighbour, and %d none", selects[0], selects[1])
	}
}

// TestAliasMemory: P0.4 and P0.6, Alias neither modifies nor keeps arcs and cells, nor what is behind them.
func TestAliasMemory(t *testing.T) {
	for _, spare := range []int{2, 5} {
		arcs, all := weighing(1, 3, 9, 9, 9), table(2, 1, 4, 1, 7, 7, 8, 8, 9, 9)
		l, cells := arcs[:2:spare], all[:2:spare]
		for range 3 {
			wantAlias(t, l, cells, 1, 0, true)
			wantAlias(t, l, cells, 2, 1, true)
			wantAlias(t, l, cells, 8, 0, false)
		}
		if !slices.Equal(arcs, weighing(1, 3, 9, 9, 9)) || !slices.Equal(all, table(2, 1, 4, 1, 7, 7, 8, 8, 9, 9)) {
			t.Errorf("Alias makes %v and %v", arcs, all)
		}
		cells[0].Cut = 1
		wantAlias(t, l, cells, 1, 1, true)
		cells[0].Other = 0
		wantAlias(t, l, cells, 1, 0, true)
		l[1].Weight = 1
		wantAlias(t, l, cells, 2, 1, true)
		wantAlias(t, l, cells, 4, 0, false)
	}
}
