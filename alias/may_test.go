package alias

import (
	"math"
	"palmer/api"
	"slices"
	"testing"
)

// TestMayNothing: P16.1 and P0.5, no neighbours, and what is no list of neighbours, have no correct table, whatever the cells are.
func TestMayNothing(t *testing.T) {
	for _, l := range formless {
		tables := [][]api.Cell{nil, {}, table(1, 0), table(0, 0), table(0, 0, 0, 0), slowBuild(weighing(1, 1)), slowBuild(weighing(1, 1, 1))}
		for _, cells := range tables {
			wantMay(t, false, l, cells)
		}
	}
	// these would be correct but for the order of the vertices, or for the sum
	wantMay(t, false, []api.Arc{{To: 6, Weight: 1}, {To: 5, Weight: 1}}, table(2, 0, 2, 1))
	wantMay(t, false, []api.Arc{{To: 5, Weight: 1}, {To: 5, Weight: 1}}, table(2, 0, 2, 1))
	wantMay(t, false, []api.Arc{{To: 5, Weight: greatest + 1}}, table(greatest+1, 0))
	wantMay(t, false, []api.Arc{{To: 5, Weight: greatest}, {To: 6, Weight: greatest}}, table(2*greatest, 0, 2*greatest, 1))
	wantMay(t, false, []api.Arc{{To: 5, Weight: 0}}, table(0, 0))
	wantMay(t, false, []api.Arc{{To: 5, Weight: 0}, {To: 6, Weight: 1}}, table(0, 1, 1, 1))
}

// TestMayCells: P16.1, a cell less or more, where neighbours are selected by the right number of draws nevertheless.
func TestMayCells(t *testing.T) {
	l := weighing(1, 3)
	wantMay(t, true, l, table(2, 1, 4, 1))
	wantMay(t, false, l, table(2, 1))
	wantMay(t, false, l, nil)
	wantMay(t, false, l, table(2, 1, 4, 1, 0, 0))
	wantMay(t, false, l, table(2, 1, 4, 1, 4, 1))
	wantMay(t, false, l, table(2, 1, 4, 1, 4, 2))
	wantMay(t, false, weighing(1), nil)
	wantMay(t, true, weighing(1), table(1, 0))
	wantMay(t, false, weighing(1), table(1, 0, 1, 0))
	wantMay(t, false, weighing(1, 1), table(1, 0))
	wantMay(t, false, weighing(1), table(2, 0, 2, 1))
}

// TestMayCut: P16.1, a Cut of W and of one more, of the cell of a neighbour that is selected by the right draws, as a greater Cut changes nothing in them.
func TestMayCut(t *testing.T) {
	wantMay(t, true, weighing(5), table(5, 0))
	for _, cut := range []uint64{6, 7, 1 << 32, math.MaxUint64 - 5, most} {
		wantMay(t, false, weighing(5), table(cut, 0))
		wantMay(t, false, weighing(1, 3), table(2, 1, cut, 1))
		wantMay(t, false, weighing(2, 2), table(cut, 0, 4, 1))
	}
	// with a Cut greater than W, modulo 2^64 the draws would be right
	wantMay(t, false, weighing(2, 2), table(6, 1, 6, 0))
	wantMay(t, false, weighing(1, 3), table(6, 0, 4, 1))
	wantMay(t, false, weighing(5), table(4, 1))
}

// TestMayOther: P16.1, an Other of d minus 1 and of d, even of a cell all of whose draws select its own neighbour.
func TestMayOther(t *testing.T) {
	for _, other := range []uint64{0, 1, 2} {
		wantMay(t, true, weighing(2, 2, 2), table(6, other, 6, other, 6, other))
	}
	for _, other := range []uint64{3, 4, 255, 256, 1 << 31, last - 1, last} {
		wantMay(t, false, weighing(2, 2, 2), table(6, other, 6, 1, 6, 2))
		wantMay(t, false, weighing(2, 2, 2), table(6, 0, 6, 1, 6, other))
		wantMay(t, false, weighing(1, 1, 4), table(3, other, 3, 2, 6, 2))
	}
	wantMay(t, true, weighing(1), table(1, 0))
	wantMay(t, true, weighing(1), table(0, 0))
	wantMay(t, false, weighing(1), table(1, 1))
	wantMay(t, false, weighing(1), table(0, 1))
}

// TestMayOthers: P16.1, correct tables that are not those that Build returns, and such as are wrong by one draw.
func TestMayOthers(t *testing.T) {
	// rests 2, 6 of 4
	wantMay(t, true, weighing(1, 3), table(2, 1, 4, 0))
	wantMay(t, true, weighing(1, 3), table(0, 1, 2, 0))
	wantMay(t, true, weighing(1, 3), table(1, 1, 3, 0))
	wantMay(t, false, weighing(1, 3), table(1, 1, 4, 0))
	wantMay(t, false, weighing(1, 3), table(3, 1, 4, 1))
	wantMay(t, false, weighing(1, 3), table(1, 1, 4, 1))
	wantMay(t, false, weighing(1, 3), table(2, 1, 3, 0))
	wantMay(t, false, weighing(1, 3), table(2, 0, 4, 1))
	wantMay(t, false, weighing(3, 1), table(2, 1, 4, 1))
	// rests 6, 6 of 6 each: every cell may be another one's
	wantMay(t, true, weighing(2, 2, 2), table(0, 1, 0, 2, 0, 0))
	wantMay(t, true, weighing(2, 2, 2), table(5, 1, 5, 2, 5, 0))
	wantMay(t, true, weighing(2, 2, 2), table(4, 2, 6, 0, 4, 0))
	wantMay(t, false, weighing(2, 2, 2), table(4, 2, 6, 0, 5, 0))
	wantMay(t, false, weighing(2, 2, 2), table(5, 1, 6, 0, 6, 0))
	wantMay(t, false, weighing(2, 2, 2), table(5, 1, 5, 1, 5, 0))
	// the greatest sum, wrong by one draw
	wantMay(t, true, weighing(1, greatest-1), table(2, 1, greatest, 1))
	wantMay(t, true, weighing(1, greatest-1), table(1, 1, greatest-1, 0))
	wantMay(t, false, weighing(1, greatest-1), table(3, 1, greatest, 1))
	wantMay(t, false, weighing(1, greatest-1), table(1, 1, greatest, 1))
	wantMay(t, false, weighing(2, greatest-2), table(2, 1, greatest, 1))
}

// TestMayAll: P16.1, all tables of two and three neighbours, those with a Cut and an Other too great among them, against the chapter and draw by draw.
func TestMayAll(t *testing.T) {
	correct, all := 0, 0
	for _, weights := range [][]uint32{{1}, {2}, {1, 1}, {1, 2}, {2, 1}, {1, 3}, {2, 2}, {1, 1, 1}, {2, 1, 1}, {1, 1, 2}} {
		l := weighing(weights...)
		w := slowSum(l).Uint64()
		var kinds []api.Cell
		for cut := range w + 2 {
			for other := range uint32(len(l) + 1) {
				kinds = append(kinds, api.Cell{Cut: cut, Other: other})
			}
		}
		for cells := range sequences(len(l), kinds) {
			want := slowMay(l, cells)
			wantMay(t, want, l, cells)
			all++
			if want {
				wantDraws(t, l, cells)
				correct++
			}
		}
	}
	if correct < 100 || correct > all/10 {
		t.Errorf("of %d tables %d are correct", all, correct)
	}
}

// TestMayBuilt: P16.1 and P16.2, tables that Build returns, and with one of their numbers changed.
func TestMayBuilt(t *testing.T) {
	d := &dice{1 << 44}
	for range 300 {
		l := weighing(someWeights(d, 2+d.below(30), 1000)...)
		cells := wantBuild(t, l)
		w := slowSum(l).Uint64()
		i := d.below(len(cells))
		for _, c := range []api.Cell{
			{Cut: cells[i].Cut + 1, Other: cells[i].Other},
			{Cut: cells[i].Cut - 1, Other: cells[i].Other},
			{Cut: cells[i].Cut, Other: uint32(d.below(len(cells)))},
			{Cut: w, Other: cells[i].Other},
			{Cut: 0, Other: cells[i].Other},
			{Cut: w, Other: uint32(len(cells))},
		} {
			changed := slices.Clone(cells)
			changed[i] = c
			wantMay(t, slowMay(l, changed), l, changed)
		}
		j := d.below(len(cells))
		cells[i], cells[j] = cells[j], cells[i]
		wantMay(t, slowMay(l, cells), l, cells)
		l[i].Weight++
		wantMay(t, slowMay(l, cells), l, cells)
	}
}

// TestMayMemory: P0.4 and P0.6, May modifies neither arcs nor cells, and says the same again.
func TestMayMemory(t *testing.T) {
	arcs, cells := weighing(1, 3, 9, 9), table(2, 1, 4, 1, 7, 7, 8, 8)
	for range 3 {
		for _, l := range [][]api.Arc{arcs[:2], arcs[:2:2]} {
			wantMay(t, true, l, cells[:2])
			wantMay(t, false, l, cells[:3])
		}
	}
	if !slices.Equal(arcs, weighing(1, 3, 9, 9)) || !slices.Equal(cells, table(2, 1, 4, 1, 7, 7, 8, 8)) {
		t.Errorf("May makes %v and %v", arcs, cells)
	}
}
