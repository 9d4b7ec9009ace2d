package pick

import (
	"palmer/api"
	"slices"
	"testing"
)

// TestTotal: P17.1, one neighbour, several, and weights whose sum is MaxWeight.
func TestTotal(t *testing.T) {
	for _, k := range []struct {
		weights []uint32
		want    uint64
	}{
		{[]uint32{1}, 1},
		{[]uint32{7}, 7},
		{[]uint32{greatest}, greatest},
		{[]uint32{1, 3}, 8},
		{[]uint32{3, 1}, 8},
		{[]uint32{2, 1, 3}, 18},
		{[]uint32{5, 5, 5, 5}, 80},
		{slices.Repeat([]uint32{1}, 300), 90000},
		{[]uint32{1, greatest - 1}, 2 * greatest},
		{[]uint32{1 << 30, 1<<30 - 1}, 2 * greatest},
		{[]uint32{1, greatest - 2, 1}, 3 * greatest},
		{append(slices.Repeat([]uint32{1}, 999), greatest-999), 1000 * greatest},
		{append(slices.Repeat([]uint32{1}, 1<<16-1), greatest-1<<16+1), greatest << 16},
	} {
		l := weighing(k.weights...)
		if got := Total(l); got != k.want || slowTotal(l) != k.want {
			t.Errorf("Total(%v) is %d, and by the chapter %d, not %d", front(l), got, slowTotal(l), k.want)
		}
	}
}

// TestTotalNone: P17.1 and P0.5, no neighbours, and what is no list of neighbours: To that descends, one To twice, a weight of 0, and a sum that is too great.
func TestTotalNone(t *testing.T) {
	for _, l := range formless {
		if got := Total(l); got != 0 || slowNeighbours(l) {
			t.Errorf("Total(%v) is %d", l, got)
		}
	}
}

// TestTotalAll: P17.1, arcs at the edges, one to three, against the chapter.
func TestTotalAll(t *testing.T) {
	var kinds []api.Arc
	for _, to := range []uint32{0, 1, 1 << 31, last - 1, last} {
		for _, weight := range []uint32{0, 1, 2, 1 << 30, greatest - 1, greatest, greatest + 1, last} {
			kinds = append(kinds, api.Arc{To: to, Weight: weight})
		}
	}
	lists := 0
	for l := range sequences(3, kinds) {
		total := slowTotal(l)
		if got := Total(l); got != total {
			t.Fatalf("Total(%v) is %d, not %d", l, got, total)
		}
		if total == 0 {
			wantInterval(t, l, 0, 0, false)
			continue
		}
		lists++
		for i := range l {
			wantInterval(t, l, slowStart(l, i), i, true)
			wantInterval(t, l, slowStart(l, i+1)-1, i, true)
		}
		wantInterval(t, l, total, 0, false)
	}
	if lists < 100 {
		t.Errorf("there were %d lists of neighbours", lists)
	}
}

// TestInterval: P17.1, the intervals of neighbours, by hand.
func TestInterval(t *testing.T) {
	for _, k := range []struct {
		weights []uint32
		starts  []uint64 // of each interval, and behind the last one
	}{
		{[]uint32{1}, []uint64{0, 1}},
		{[]uint32{5}, []uint64{0, 5}},
		{[]uint32{greatest}, []uint64{0, greatest}},
		{[]uint32{1, 3}, []uint64{0, 2, 8}},
		{[]uint32{3, 1}, []uint64{0, 6, 8}},
		{[]uint32{2, 1, 3}, []uint64{0, 6, 9, 18}},
		{[]uint32{1, 4, 1, 2}, []uint64{0, 4, 20, 24, 32}},
		{[]uint32{1, greatest - 1}, []uint64{0, 2, 2 * greatest}},
		{[]uint32{greatest - 1, 1}, []uint64{0, 2*greatest - 2, 2 * greatest}},
		{[]uint32{1, greatest - 2, 1}, []uint64{0, 3, 3*greatest - 3, 3 * greatest}},
	} {
		l := weighing(k.weights...)
		for i := range l {
			from, to := k.starts[i], k.starts[i+1]
			for _, y := range []uint64{from, from + (to-from)/2, to - 1} {
				wantInterval(t, l, y, i, true)
			}
		}
		for _, y := range strange(k.starts[len(l)]) {
			wantInterval(t, l, y, 0, false)
		}
	}
}

// TestIntervalNone: P17.1, of no neighbours and of what is no list of neighbours nothing is selected.
func TestIntervalNone(t *testing.T) {
	for _, l := range formless {
		for _, y := range append(strange(0), strange(slowSum(l))...) {
			wantInterval(t, l, y, 0, false)
		}
		for y := range uint64(20) {
			wantInterval(t, l, y, 0, false)
		}
	}
}

// TestIntervalShort: P17.1, all numbers of all lists of at most five small weights.
func TestIntervalShort(t *testing.T) {
	for weights := range sequences(5, []uint32{0, 1, 2, 5}) {
		l := weighing(weights...)
		for y := range slowTotal(l) + 2 {
			to, ok := slowInterval(l, y)
			wantInterval(t, l, y, to, ok)
		}
	}
}

// TestIntervalWide: P17.1, as many neighbours as a text has edges at most, with the greatest sum.
func TestIntervalWide(t *testing.T) {
	d := &dice{1 << 40}
	l := weighing(append(someWeights(d, api.MaxEdges-1, 1<<14), 0)...)
	l[len(l)-1].Weight = uint32(greatest - slowSum(l))
	if got := Total(l); got != greatest<<16 {
		t.Fatalf("the total is %d", got)
	}
	next := uint64(0)
	for i, a := range l {
		size := uint64(a.Weight) << 16
		if i%400 == 0 || i > len(l)-20 {
			wantInterval(t, l, next, i, true)
			wantInterval(t, l, next+size-1, i, true)
		}
		next += size
	}
	wantInterval(t, l, greatest<<16, 0, false)
}

// TestIntervalMemory: P0.4 and P0.6, Total and Interval neither modify nor keep the arcs, nor what is behind them.
func TestIntervalMemory(t *testing.T) {
	for _, l := range [][]api.Arc{weighing(1, 3, 9, 9)[:2], weighing(1, 3, 9, 9)[:2:2]} {
		before := slices.Clone(l[:cap(l)])
		for range 3 {
			if got := Total(l); got != 8 {
				t.Errorf("the total is %d", got)
			}
			wantInterval(t, l, 1, 0, true)
			wantInterval(t, l, 2, 1, true)
			wantInterval(t, l, 8, 0, false)
		}
		if !slices.Equal(l[:cap(l)], before) {
			t.Errorf("%v is %v now", before, l[:cap(l)])
		}
		l[0].Weight = 4
		if got := Total(l); got != 14 {
			t.Errorf("the total is %d then", got)
		}
		wantInterval(t, l, 7, 0, true)
		wantInterval(t, l, 8, 1, true)
	}
}
