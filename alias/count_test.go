package alias

import (
	"math"
	"palmer/api"
	"slices"
	"testing"
)

// strangeNumbers are numbers that are no neighbour's, where there are few.
var strangeNumbers = []int{math.MinInt, math.MinInt32, -1 << 32, -(1 << 32) + 1, -2, -1, 1 << 16, math.MaxInt32, 1 << 32, 1<<32 + 1, 1<<40 + 1, math.MaxInt}

// TestCountKnown: P16.1, the draws of neighbours: of its own cell, of others, of both, and of none.
func TestCountKnown(t *testing.T) {
	cells := table(2, 1, 4, 1)
	wantCount(t, 2, cells, 4, 0)
	wantCount(t, 6, cells, 4, 1)
	cells = table(3, 2, 0, 2, 5, 0, 1, 3)
	wantCount(t, 5, cells, 7, 0)
	wantCount(t, 0, cells, 7, 1) // all draws of its cell select another one, and no cell names it
	wantCount(t, 16, cells, 7, 2)
	wantCount(t, 7, cells, 7, 3) // its own cell names it
	for _, to := range append(strangeNumbers, 4, 5) {
		wantCount(t, 0, cells, 7, to)
	}
}

// TestCountNothing: P16.1 and P0.5, without cells, and with a w of 0, there are no draws.
func TestCountNothing(t *testing.T) {
	for _, to := range append(strangeNumbers, 0, 1, 2, 3) {
		for _, w := range []uint64{0, 1, 7, most} {
			wantCount(t, 0, nil, w, to)
			wantCount(t, 0, []api.Cell{}, w, to)
		}
		wantCount(t, 0, table(0, 0), 0, to)
		wantCount(t, 0, table(3, 2, 0, 2, most, 0, 1, 3), 0, to)
	}
}

// TestCountCut: P16.1, a Cut that is greater than w is treated as w.
func TestCountCut(t *testing.T) {
	for _, cut := range []uint64{7, 8, 9, 14, 1 << 32, most - 7, most} {
		wantCount(t, 7, table(cut, 1), 7, 0)
		wantCount(t, 0, table(cut, 1), 7, 1)
		wantCount(t, 7, table(cut, 0), 7, 0)
		wantCount(t, 10, table(4, 1, cut, 0), 7, 1)
		wantCount(t, 4, table(4, 1, cut, 0), 7, 0)
	}
	wantCount(t, 6, table(6, 1), 7, 0)
	wantCount(t, 1, table(6, 1), 7, 1)
	wantCount(t, most, table(most, 1), most, 0)
	wantCount(t, most-1, table(most-1, 1), most, 0)
	wantCount(t, 1, table(most-1, 1), most, 1)
}

// TestCountStranger: P16.1, an Other that is no cell's index has draws too, and so has the greatest one.
func TestCountStranger(t *testing.T) {
	for _, other := range []uint32{2, 3, 1 << 16, 1<<31 - 1, 1 << 31, last - 1, last} {
		cells := []api.Cell{{Cut: 3, Other: other}, {Cut: 5, Other: other}}
		wantCount(t, 6, cells, 7, int(other))
		wantCount(t, 3, cells, 7, 0)
		wantCount(t, 5, cells, 7, 1)
		wantCount(t, 0, cells, 7, int(other)-1<<32)
		wantCount(t, 0, cells, 7, int(other)+1<<32)
		wantCount(t, 0, cells, 7, -int(other))
	}
}

// TestCountAround: P16.1, where the arithmetic passes 2^64.
func TestCountAround(t *testing.T) {
	wantCount(t, most-1, table(most, 0, 0, 0), most, 0)
	wantCount(t, most-2, table(0, 2, 0, 2, most, 0), most, 2)
	wantCount(t, 0, table(1<<63, 1, 0, 0), 1<<63, 0)
	wantCount(t, 1<<63, table(0, 0, 0, 0, 0, 0), 1<<63, 0)
	wantCount(t, 0, table(0, 3, 0, 3, 0, 3, 0, 3), 1<<62, 3)
	wantCount(t, 3, table(0, 4, 0, 4, 0, 4, 0, 4, 3, 0), 1<<62, 4)
}

// TestCountAll: P16.1, all tables of at most three cells, against the chapter and draw by draw.
func TestCountAll(t *testing.T) {
	var kinds []api.Cell
	for cut := range uint64(5) {
		for other := range uint32(4) {
			kinds = append(kinds, api.Cell{Cut: cut, Other: other})
		}
	}
	for cells := range sequences(3, kinds) {
		n, _ := byDraw(cells, 3)
		for to := range 4 {
			want := slowCount(cells, 3, to).Uint64()
			wantCount(t, want, cells, 3, to)
			if to < len(n) && n[to] != want {
				t.Fatalf("of the draws of %v, %d select %d, not %d", cells, n[to], to, want)
			}
		}
	}
}

// TestCountMany: P16.1, tables without a pattern, of numbers of all lengths, against the chapter, modulo 2^64.
func TestCountMany(t *testing.T) {
	d := &dice{1 << 45}
	for range 2000 {
		var cells []api.Cell
		for range d.below(20) {
			cells = append(cells, api.Cell{Cut: d.number() >> d.below(64), Other: uint32(d.below(20))})
		}
		w := d.number() >> d.below(64)
		sum, total := uint64(0), uint64(len(cells))*w
		for to := range 20 {
			slow := slowCount(cells, w, to)
			want := slow.Uint64()
			if !slow.IsUint64() {
				want = slow.And(slow, times(most, 1)).Uint64()
			}
			wantCount(t, want, cells, w, to)
			sum += Count(cells, w, to)
		}
		if sum != total {
			t.Fatalf("all neighbours are selected by %d draws, not by %d", sum, total)
		}
	}
}

// TestCountMemory: P0.4 and P0.6, Count does not modify the cells, and says the same again.
func TestCountMemory(t *testing.T) {
	cells := table(2, 1, 9, 1, 7, 7)
	for range 3 {
		wantCount(t, 6, cells[:2], 4, 1)
		wantCount(t, 0, cells[:2], 4, 7)
	}
	if !slices.Equal(cells, table(2, 1, 9, 1, 7, 7)) {
		t.Errorf("Count makes %v", cells)
	}
}
