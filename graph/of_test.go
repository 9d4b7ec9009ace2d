package graph

import (
	"palmer/api"
	"slices"
	"testing"
)

// edge is short for one.
func edge(from, to, weight uint32) api.Edge {
	return api.Edge{From: from, To: to, Weight: weight}
}

// wantEdges says in each order of edges that they have a graph of these rows.
func wantEdges(t *testing.T, l []api.Edge, rows ...api.Row) {
	t.Helper()
	for order := range orders(l) {
		g, err := Of(order)
		if err != api.OK {
			t.Fatalf("the edges %v have error %d", order, err)
		}
		wantGraph(t, g, rows)
	}
	wantOf(t, l)
}

// wantFailed says in each order of edges with which error Of returns nothing.
func wantFailed(t *testing.T, want api.Errno, l ...api.Edge) {
	t.Helper()
	for order := range orders(l) {
		if err := wantOf(t, order); err != want {
			t.Fatalf("the edges %v have error %d, not %d", order, err, want)
		}
	}
}

// TestOfNothing: P15.1 and P0.5, of no edges there is an empty graph, and no error.
func TestOfNothing(t *testing.T) {
	for _, l := range [][]api.Edge{nil, {}, make([]api.Edge, 0, 5), []api.Edge{edge(1, 2, 0)}[:0]} {
		wantEdges(t, l)
	}
}

// TestOfExample: P15.1, the example of the chapter.
func TestOfExample(t *testing.T) {
	g, err := Of([]api.Edge{{From: 1, To: 2, Weight: 3}, {From: 1, To: 2, Weight: 4}})
	if err != api.OK || g.Len() != 1 || !g.Near(1, 2) || g.Near(2, 1) || !slices.Equal(g.Vertices(), []uint32{1, 2}) {
		t.Errorf("there are %d rows and the vertices %v, with error %d", g.Len(), g.Vertices(), err)
	}
	wantGraph(t, g, []api.Row{row(1, 2, 7)})
}

// TestOfKnown: P15.1 and P15.2, edges in each order, the same edge several times, and edges of several weights between the same two vertices.
func TestOfKnown(t *testing.T) {
	wantEdges(t, []api.Edge{edge(1, 2, 3)}, row(1, 2, 3))
	wantEdges(t, []api.Edge{edge(0, 0, 1)}, row(0, 0, 1))
	wantEdges(t, []api.Edge{edge(last, last, greatest)}, row(last, last, greatest))
	wantEdges(t, []api.Edge{edge(0, last, 1), edge(last, 0, 2)}, row(0, last, 1), row(last, 0, 2))
	wantEdges(t, []api.Edge{edge(1, 2, 3), edge(1, 2, 3)}, row(1, 2, 6))
	wantEdges(t, []api.Edge{edge(1, 2, 3), edge(1, 2, 3), edge(1, 2, 3), edge(2, 1, 3), edge(2, 1, 3)}, row(1, 2, 9), row(2, 1, 6))
	wantEdges(t, []api.Edge{edge(1, 2, 3), edge(1, 2, 9), edge(1, 2, 1), edge(1, 3, 1)}, row(1, 2, 13, 3, 1))
	wantEdges(t, []api.Edge{edge(7, 1, 2), edge(3, 9, 1), edge(7, 0, 5), edge(7, 1, 1)}, row(3, 9, 1), row(7, 0, 5, 1, 3))
	wantEdges(t, []api.Edge{edge(256, 1, 1), edge(1, 256, 1), edge(255, 65536, 2), edge(65536, 255, 3)}, row(1, 256, 1), row(255, 65536, 2), row(256, 1, 1), row(65536, 255, 3))
	wantEdges(t, []api.Edge{edge(5, 256, 1), edge(5, 1, 256), edge(5, 255, 65536), edge(5, 65536, 2), edge(5, 1, 1)}, row(5, 1, 257, 255, 65536, 256, 1, 65536, 2))
	wantEdges(t, []api.Edge{edge(1<<31, 1, 1), edge(1<<31-1, 1, 1), edge(4, 1<<31, 1), edge(4, 1<<31-1, 2)}, row(4, 1<<31-1, 2, 1<<31, 1), row(1<<31-1, 1, 1), row(1<<31, 1, 1))
}

// TestOfSum: P15.1, the weights from one vertex come to MaxWeight, and to one more, which is ErrOver: of one edge, of several to one vertex, of several to several, and where 32 bits would hold the sum as a small one.
func TestOfSum(t *testing.T) {
	wantEdges(t, []api.Edge{edge(1, 2, greatest)}, row(1, 2, greatest))
	wantEdges(t, []api.Edge{edge(1, 2, greatest-1), edge(1, 2, 1)}, row(1, 2, greatest))
	wantEdges(t, []api.Edge{edge(1, 2, greatest-3), edge(1, 3, 2), edge(1, 4, 1)}, row(1, 2, greatest-3, 3, 2, 4, 1))
	wantEdges(t, []api.Edge{edge(1, 2, greatest), edge(2, 2, greatest), edge(3, 2, greatest-1), edge(3, 3, 1)}, row(1, 2, greatest), row(2, 2, greatest), row(3, 2, greatest-1, 3, 1))
	for _, l := range [][]api.Edge{
		{edge(1, 2, greatest+1)},
		{edge(1, 2, last)},
		{edge(1, 2, greatest), edge(1, 2, 1)},
		{edge(1, 2, greatest), edge(1, 3, 1)},
		{edge(1, 2, greatest-3), edge(1, 3, 2), edge(1, 4, 2)},
		{edge(1, 2, greatest-3), edge(1, 2, 2), edge(1, 2, 2)},
		{edge(1, 2, last), edge(1, 2, 1)},
		{edge(1, 2, last), edge(1, 3, 1), edge(1, 4, 1)},
		{edge(1, 2, 1<<31), edge(1, 2, 1<<31)},
		{edge(1, 2, 1<<31), edge(1, 3, 1<<31), edge(1, 4, 5)},
		{edge(0, 2, greatest), edge(0, last, 1)},
		{edge(last, 0, 1), edge(last, last, greatest)},
	} {
		wantFailed(t, api.ErrOver, l...)
		wantFailed(t, api.ErrOver, append(slices.Clip(l), edge(0, 9, 4), edge(9, 1, 1))...)
	}
}

// TestOfMet: P15.1, the sum is that of the edges that leave a vertex, not of those that end there, nor of all.
func TestOfMet(t *testing.T) {
	wantFailed(t, api.OK, edge(1, 9, greatest), edge(2, 9, greatest), edge(9, 9, 1))
	wantFailed(t, api.OK, edge(1, 9, greatest), edge(9, 1, greatest))
	wantFailed(t, api.OK, edge(1, 1, greatest), edge(2, 1, 1))
}

// TestOfRange: P15.1 and P0.2, an edge of the Weight 0 is ErrRange, wherever it stands, and also where the weights of its vertex, or of another one, exceed MaxWeight.
func TestOfRange(t *testing.T) {
	for _, wrong := range []api.Edge{edge(0, 0, 0), edge(1, 2, 0), edge(1, 0, 0), edge(5, 2, 0), edge(9, 9, 0), edge(last, last, 0)} {
		wantFailed(t, api.ErrRange, wrong)
		wantFailed(t, api.ErrRange, wrong, wrong)
		wantFailed(t, api.ErrRange, wrong, edge(1, 2, 3), edge(5, 2, 1), edge(7, 0, 1))
		wantFailed(t, api.ErrRange, wrong, edge(1, 2, greatest))
		wantFailed(t, api.ErrRange, wrong, edge(1, 2, greatest), edge(1, 2, 1))
		wantFailed(t, api.ErrRange, wrong, edge(5, 2, greatest), edge(5, 3, 1))
		wantFailed(t, api.ErrRange, wrong, edge(5, 2, last))
		wantFailed(t, api.ErrRange, wrong, edge(1, 2, 1<<31), edge(0, 0, last), edge(9, 9, last))
	}
}

// TestOfAll: P15.1 and P15.2, all short sequences of edges, with and without errors, against the chapter.
func TestOfAll(t *testing.T) {
	kinds := []api.Edge{edge(1, 1, 0), edge(0, 1, greatest), edge(2, 0, greatest-1), edge(2, 1, greatest+1), edge(last, last, 1)}
	for _, from := range []uint32{0, 1, 2} {
		kinds = append(kinds, edge(from, 0, 1), edge(from, 1, 1), edge(from, 1, 2))
	}
	met := map[api.Errno]int{}
	for l := range sequences(3, kinds) {
		met[wantOf(t, l)]++
	}
	for _, err := range []api.Errno{api.OK, api.ErrRange, api.ErrOver} {
		if met[err] < 50 {
			t.Errorf("error %d was met %d times", err, met[err])
		}
	}
}

// TestOfMany: P15.1 and P15.2, graphs without a pattern, thin ones and dense ones, with vertices near to each other and far away.
func TestOfMany(t *testing.T) {
	d := &dice{}
	for i := range 300 {
		l := someEdges(d, d.below(120), 1+i%15)
		for j := range l {
			if i%4 == 0 {
				l[j].From *= last / 15
			}
			if i%3 == 0 {
				l[j].To *= last / 15
			}
		}
		if err := wantOf(t, l); err != api.OK {
			t.Fatalf("the edges %v have error %d", l, err)
		}
	}
}

// TestOfLong: P15.1, as many edges as a text has at most: from one vertex, from one each, and between the same two.
func TestOfLong(t *testing.T) {
	var wide, deep, thin []api.Edge
	for i := range uint32(api.MaxEdges) {
		wide = append(wide, edge(7, ^i*65535, 1+i%3))
		deep = append(deep, edge(^i*65535, 7, 1+i%3))
		thin = append(thin, edge(7, 7, 1<<15-1))
	}
	for _, l := range [][]api.Edge{wide, deep} {
		g, err := Of(l)
		rows, _ := slowOf(l)
		if err != api.OK {
			t.Fatalf("many edges have error %d", err)
		}
		wantLists(t, g, rows)
	}
	wantOf(t, thin)
	if err := wantOf(t, append(thin, edge(7, 7, 1<<16-1))); err != api.OK {
		t.Errorf("the sum MaxWeight has error %d", err)
	}
	if err := wantOf(t, append(thin, edge(7, 7, 1<<16))); err != api.ErrOver {
		t.Errorf("one more has error %d", err)
	}
}

// TestOfAgain: P0.6, edges have the same graph, or the same error, whatever was asked for before.
func TestOfAgain(t *testing.T) {
	lists := [][]api.Edge{nil, {edge(7, 7, greatest)}, {edge(7, 7, 1)}, {edge(7, 6, 1)}, {edge(7, 7, 0)}, {edge(7, 7, last)}, {edge(9, 1, 1), edge(7, 2, 1)}}
	for _, ahead := range lists {
		for _, l := range lists {
			wantOf(t, ahead)
			wantOf(t, l)
		}
	}
}

// TestOfArguments: P0.4, edges are neither brought into another order nor changed, spare capacity included, and a graph stays as it is when they are.
func TestOfArguments(t *testing.T) {
	d := &dice{}
	for range 30 {
		whole := someEdges(d, 30, 5)
		if d.below(3) == 0 {
			whole[d.below(30)].Weight = last * uint32(d.below(2))
		}
		before := slices.Clone(whole)
		for n := range len(whole) + 1 {
			l := whole[:n]
			rows, _ := slowOf(l)
			g, err := Of(l)
			if !slices.Equal(whole, before) {
				t.Fatalf("the edges %v have become %v", before, whole)
			}
			clear(l)
			if err == api.OK {
				wantGraph(t, g, rows)
			}
			copy(l, before)
		}
	}
}
