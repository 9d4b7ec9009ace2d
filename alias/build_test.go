package alias

import (
	"math"
	"palmer/api"
	"slices"
	"testing"
)

// TestExample: P16.1 and P16.2, the example of the chapter, and that of the document: of eight draws, two select the first neighbour and six the second one.
func TestExample(t *testing.T) {
	l := weighing(1, 3)
	cells := wantBuild(t, l)
	if want := table(2, 1, 4, 1); !slices.Equal(cells, want) {
		t.Errorf("the example is %v, not %v", cells, want)
	}
	if n, _ := byDraw(cells, 4); !slices.Equal(n, []uint64{2, 6}) {
		t.Errorf("the eight draws of the example select %v", n)
	}
}

// knownTables are tables worked out by hand.
var knownTables = []struct {
	weights []uint32
	want    []api.Cell
}{
	// one neighbour has its own cell alone
	{[]uint32{1}, table(1, 0)},
	{[]uint32{7}, table(7, 0)},
	{[]uint32{greatest}, table(greatest, 0)},
	// and so has each of neighbours of equal weights
	{[]uint32{1, 1}, table(2, 0, 2, 1)},
	{[]uint32{5, 5, 5}, table(15, 0, 15, 1, 15, 2)},
	{[]uint32{2, 2, 2, 2}, table(8, 0, 8, 1, 8, 2, 8, 3)},
	{[]uint32{1<<30 - 1, 1<<30 - 1}, table(greatest-1, 0, greatest-1, 1)},
	// rests 6, 2 of 4: the second one takes of the first
	{[]uint32{3, 1}, table(4, 0, 2, 0)},
	// rests 3, 6, 9 of 6: the middle one has W from the start
	{[]uint32{1, 2, 3}, table(3, 2, 6, 1, 6, 2)},
	{[]uint32{2, 1, 3}, table(6, 0, 3, 2, 6, 2)},
	{[]uint32{3, 2, 1}, table(6, 0, 6, 1, 3, 0)},
	// rests 24, 8, 24, 8 of 16: two that are above W come to it in between
	{[]uint32{6, 2, 6, 2}, table(16, 0, 8, 0, 16, 2, 8, 2)},
	// rests 8, 24, 4, 12 of 12: the second one gives 4, then 8, and is at W; the last one is so from the start
	{[]uint32{2, 6, 1, 3}, table(8, 1, 12, 1, 4, 1, 12, 3)},
	// rests 4, 24, 4, 8 of 10: one gives to all others
	{[]uint32{1, 6, 1, 2}, table(4, 1, 10, 1, 4, 1, 8, 1)},
	// rests 4, 12, 12, 4 of 8: the first one takes of the second, which comes to W, and the last one of the third
	{[]uint32{1, 3, 3, 1}, table(4, 1, 8, 1, 8, 2, 4, 2)},
	// rests 9, 9, 3 of 7: the last one takes 4 of the first, which then takes 2 of the second
	{[]uint32{3, 3, 1}, table(5, 1, 7, 1, 3, 0)},
	// rests 24, 24, 32, 4 of 21: the last one takes 17 of the first, which takes 14 of the second, which takes 11 of the third
	{[]uint32{6, 6, 8, 1}, table(7, 1, 10, 2, 21, 2, 4, 0)},
	// rests 20, 20, 20, 5, 5 of 14: who gave takes of the next one, but that one gives once more ahead of lacking
	{[]uint32{4, 4, 4, 1, 1}, table(11, 1, 8, 2, 14, 2, 5, 0, 5, 1)},
	// rests 5, 20, 10, 40, 5 of 16: the first one takes 11 of the second, whose turn comes ahead of the third's
	{[]uint32{1, 4, 2, 8, 1}, table(5, 1, 9, 3, 10, 3, 16, 3, 5, 3)},
	// rests 10, 5, 20, 45, 20 of 20: who lacks from the start takes of the fourth one, and not of those at W
	{[]uint32{2, 1, 4, 9, 4}, table(10, 3, 5, 3, 20, 2, 20, 3, 20, 4)},
	// the greatest sum
	{[]uint32{1, greatest - 1}, table(2, 1, greatest, 1)},
	{[]uint32{greatest - 1, 1}, table(greatest, 0, 2, 0)},
	{[]uint32{1 << 30, 1<<30 - 1}, table(greatest, 0, greatest-1, 0)},
	{[]uint32{1, greatest - 2, 1}, table(3, 1, greatest, 1, 3, 1)},
}

// TestBuildKnown: P16.1 and P16.2, one neighbour, equal ones, rests that are W from the start or come to it in between, and who gives and then lacks.
func TestBuildKnown(t *testing.T) {
	for _, k := range knownTables {
		l := weighing(k.weights...)
		if cells := wantBuild(t, l); !slices.Equal(cells, k.want) {
			t.Errorf("the table of %v is %v, not %v", k.weights, cells, k.want)
		}
		if w := slowSum(l).Uint64(); w < 100 {
			wantDraws(t, l, k.want)
		}
	}
}

// TestBuildEqual: P16.1, the cells of neighbours of equal weights have the Cut W and their own index as Other.
func TestBuildEqual(t *testing.T) {
	for d := 1; d < 300; d++ {
		for _, weight := range []uint32{1, 2, 1000, greatest / uint32(d)} {
			l := weighing(slices.Repeat([]uint32{weight}, d)...)
			for i, c := range wantBuild(t, l) {
				if c.Cut != uint64(d)*uint64(weight) || c.Other != uint32(i) {
					t.Fatalf("of %d neighbours of weight %d, cell %d is %v", d, weight, i, c)
				}
			}
		}
	}
}

// formless are arcs of which there is no table.
var formless = [][]api.Arc{
	nil,
	{},
	make([]api.Arc, 0, 3),
	{{To: 5, Weight: 1}, {To: 4, Weight: 1}},
	{{To: 3, Weight: 1}, {To: 5, Weight: 1}, {To: 4, Weight: 1}},
	{{To: 5, Weight: 1}, {To: 3, Weight: 1}, {To: 4, Weight: 1}},
	{{To: last, Weight: 1}, {To: 0, Weight: 1}},
	{{To: 5, Weight: 1}, {To: 5, Weight: 1}},
	{{To: 5, Weight: 1}, {To: 5, Weight: 2}},
	{{To: 0, Weight: 1}, {To: 0, Weight: 1}},
	{{To: 4, Weight: 1}, {To: 5, Weight: 1}, {To: 5, Weight: 1}},
	{{To: 4, Weight: 1}, {To: 4, Weight: 1}, {To: 5, Weight: 1}},
	{{To: 5, Weight: 0}},
	{{To: 5, Weight: 0}, {To: 6, Weight: 1}},
	{{To: 5, Weight: 1}, {To: 6, Weight: 0}},
	{{To: 5, Weight: 1}, {To: 6, Weight: 0}, {To: 7, Weight: 1}},
	{{To: 5, Weight: greatest + 1}},
	{{To: 5, Weight: last}},
	{{To: 5, Weight: greatest}, {To: 6, Weight: 1}},
	{{To: 5, Weight: 1}, {To: 6, Weight: greatest}},
	{{To: 5, Weight: greatest - 1}, {To: 6, Weight: 1}, {To: 7, Weight: 1}},
	{{To: 5, Weight: 1 << 31}, {To: 6, Weight: 1 << 31}},                     // in 32 bits their sum would be 0
	{{To: 5, Weight: 1 << 31}, {To: 6, Weight: 1 << 31}, {To: 7, Weight: 3}}, // and 3
	{{To: 5, Weight: last}, {To: 6, Weight: 2}},                              // and 1
}

// TestBuildWrong: P16.1 and P0.2, no neighbours, and what is no list of neighbours, has ErrForm and no table.
func TestBuildWrong(t *testing.T) {
	for _, l := range formless {
		if cells, err := Build(l); err != api.ErrForm || len(cells) > 0 {
			t.Errorf("Build(%v) is %v and %d", l, cells, err)
		}
	}
}

// TestBuildShort: P16.1 and P16.2, all lists of at most six small weights, which are wrong where a weight is 0, and each of their draws.
func TestBuildShort(t *testing.T) {
	built := 0
	for weights := range sequences(6, []uint32{0, 1, 2, 3, 7}) {
		l := weighing(weights...)
		if cells := wantBuild(t, l); len(cells) > 0 {
			wantDraws(t, l, cells)
			built++
		}
	}
	if built != 4+16+64+256+1024+4096 {
		t.Errorf("%d tables were built", built)
	}
}

// TestBuildTo: P16.1, to which vertices the arcs lead makes no difference, but that they must ascend.
func TestBuildTo(t *testing.T) {
	cells := wantBuild(t, weighing(2, 1, 3))
	for to := range sequences(3, []uint32{0, 1, 2, 1 << 31, last - 1, last}) {
		if len(to) < 3 {
			continue
		}
		l := []api.Arc{{To: to[0], Weight: 2}, {To: to[1], Weight: 1}, {To: to[2], Weight: 3}}
		got := wantBuild(t, l)
		if ascending := to[0] < to[1] && to[1] < to[2]; ascending != slices.Equal(got, cells) {
			t.Errorf("the table of %v is %v", l, got)
		}
	}
}

// someWeights are weights up to a greatest one, many of them small.
func someWeights(d *dice, count int, most uint64) []uint32 {
	var l []uint32
	for range count {
		l = append(l, uint32(1+d.number()>>1%most>>d.below(12)))
	}
	return l
}

// TestBuildMany: P16.1 and P16.2, lists without a pattern, of one neighbour to a hundred, against the chapter.
func TestBuildMany(t *testing.T) {
	d := &dice{}
	for round := range 600 {
		count := 1 + d.below(1+round/6)
		for _, most := range []uint64{2, 5, 40, 1000, greatest / 101} {
			l := weighing(someWeights(d, count, most)...)
			cells := wantBuild(t, l)
			if w := slowSum(l).Uint64(); w*uint64(count) < 5000 {
				wantDraws(t, l, cells)
			}
		}
	}
}

// TestBuildGreatest: P16.1 and P16.2, weights without a pattern whose sum is MaxWeight, and one more than that.
func TestBuildGreatest(t *testing.T) {
	d := &dice{1 << 40}
	for range 400 {
		weights := someWeights(d, d.below(40), 1<<25)
		at := d.below(len(weights) + 1)
		left := greatest - uint32(slowSum(weighing(weights...)).Uint64())
		weights = slices.Insert(weights, at, left)
		wantBuild(t, weighing(weights...))
		weights[at]++
		if wantBuild(t, weighing(weights...)) != nil {
			t.Fatalf("%v have a table", weights)
		}
	}
}

// TestBuildWide: P16.2, as many neighbours as a text has edges at most, and who gives in front of those that lack, or behind them, or among them.
func TestBuildWide(t *testing.T) {
	d := &dice{1 << 41}
	some := someWeights(d, api.MaxEdges, 1<<14)
	ascending := slices.Sorted(slices.Values(some))
	descending := slices.Clone(ascending)
	slices.Reverse(descending)
	one := slices.Repeat([]uint32{1}, api.MaxEdges)
	one[api.MaxEdges/2] = greatest - api.MaxEdges + 1
	for _, weights := range [][]uint32{some, ascending, descending, one} {
		l := weighing(weights...)
		cells, err := Build(l)
		if err != api.OK || !May(l, cells) {
			t.Fatalf("the table of many neighbours has error %d", err)
		}
		n := make([]uint64, len(l))
		w := slowSum(l).Uint64()
		for i, c := range cells {
			n[i] += c.Cut
			n[c.Other] += w - c.Cut
			if c.Cut > w {
				t.Fatalf("of many neighbours cell %d is %v, of %d draws", i, c, w)
			}
		}
		for i, a := range l {
			if n[i] != uint64(len(l))*uint64(a.Weight) {
				t.Fatalf("of many neighbours %d is selected by %d draws", i, n[i])
			}
		}
		for range 20 {
			i := d.below(len(l))
			wantCount(t, n[i], cells, w, i)
		}
	}
}

// TestBuildAgain: P0.6, the same neighbours have the same table whenever it is built.
func TestBuildAgain(t *testing.T) {
	d := &dice{1 << 42}
	l := weighing(someWeights(d, 50, 1000)...)
	want := wantBuild(t, l)
	for range 20 {
		wantBuild(t, weighing(someWeights(d, 60, 1000)...))
		if got := wantBuild(t, l); !slices.Equal(got, want) {
			t.Errorf("the table is %v now, not %v", front(got), front(want))
		}
	}
}

// TestBuildMemory: P0.4, the arcs are neither modified nor kept, with what is behind them, and a table is memory of its own.
func TestBuildMemory(t *testing.T) {
	whole := weighing(4, 4, 4, 1, 1, 9, 9)
	for _, l := range [][]api.Arc{whole[:5], whole[:5:5], formless[3], formless[12]} {
		before := slices.Clone(l[:cap(l)])
		cells, err := Build(l)
		again, _ := Build(l)
		if !slices.Equal(l[:cap(l)], before) {
			t.Errorf("Build makes %v of %v", l[:cap(l)], before)
		}
		want := slices.Clone(cells)
		for i := range again[:cap(again)] {
			again[:cap(again)][i] = api.Cell{Cut: 77, Other: 7}
		}
		clear(l)
		if !slices.Equal(cells, want) {
			t.Errorf("the table changes from %v to %v, with error %d", want, cells, err)
		}
		copy(l, before)
		if got, _ := Build(l); !slices.Equal(got, want) {
			t.Errorf("the table is %v then, not %v", got, want)
		}
	}
}

// TestBuildOverflow: P16.1, weights whose sum passes 2^32, so often that it is small again there.
func TestBuildOverflow(t *testing.T) {
	for _, count := range []int{2, 3, 4, 5, 1000, 1 << 10} {
		for _, weight := range []uint32{1 << 22, 1 << 30, 1 << 31, math.MaxUint32} {
			wantBuild(t, weighing(slices.Repeat([]uint32{weight}, count)...))
		}
	}
}
