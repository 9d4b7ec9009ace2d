package graph

import (
	"iter"
	"palmer/api"
	"slices"
	"testing"
)

// known are the rows of a graph in which vertices have arcs, only arcs that end there, both, one to themselves, or nothing.
func known() []api.Row {
	return []api.Row{row(0, 4, 1), row(3, 3, 2), row(4, 0, 9, 7, 5, 9, 1), row(9, 3, greatest), row(last, 4, 6, last-1, 2)}
}

// graphOf is the graph of rows.
func graphOf(t *testing.T, rows []api.Row) *Graph {
	t.Helper()
	g, err := New(rows)
	if err != api.OK {
		t.Fatalf("the rows %v have error %d", rows, err)
	}
	return g
}

// wantEmpty says that each function of a graph answers that there is nothing.
func wantEmpty(t *testing.T, g *Graph) {
	t.Helper()
	wantGraph(t, g, nil)
	rows := g.Rows()
	if rows == nil {
		t.Fatal("there is no iterator")
	}
	for range 2 {
		for r := range rows {
			t.Errorf("an empty graph has the row %v", r)
		}
	}
	for _, v := range []uint32{0, 1, 1 << 31, last} {
		if len(g.Arcs(v)) > 0 || g.Near(v, v) || g.Near(v, 0) || g.Near(0, v) {
			t.Errorf("an empty graph has arcs at %d", v)
		}
	}
}

// TestNil: P15.1 and P0.1, a nil graph is empty, as is that of no rows, that of no edges, and what is returned beside an error.
func TestNil(t *testing.T) {
	wantEmpty(t, nil)
	for _, rows := range [][]api.Row{nil, {}, {row(1)}, {row(1, 1, 1), row(1, 1, 1)}} {
		g, _ := New(rows)
		wantEmpty(t, g)
	}
	for _, l := range [][]api.Edge{nil, {}, {edge(1, 2, 3), edge(1, 2, 0)}, {edge(1, 2, 3), edge(3, 2, last)}} {
		g, _ := Of(l)
		wantEmpty(t, g)
	}
}

// TestLen: P15.1, the number of rows, not of arcs or vertices.
func TestLen(t *testing.T) {
	rows := known()
	for n := range len(rows) + 1 {
		if g := graphOf(t, rows[:n]); g.Len() != n {
			t.Errorf("of %d rows there are %d", n, g.Len())
		}
	}
	if g, _ := Of([]api.Edge{edge(1, 2, 1), edge(1, 2, 1), edge(1, 3, 1), edge(3, 9, 1)}); g.Len() != 2 {
		t.Errorf("the edges of 2 vertices have %d rows", g.Len())
	}
}

// TestArcs: P15.1, the arcs of a vertex that has some, of one without, and of one at which edges only end.
func TestArcs(t *testing.T) {
	g := graphOf(t, known())
	for _, c := range []struct {
		v    uint32
		want api.Row
	}{
		{0, row(0, 4, 1)}, {3, row(3, 3, 2)}, {4, row(4, 0, 9, 7, 5, 9, 1)}, {9, row(9, 3, greatest)}, {last, row(last, 4, 6, last-1, 2)},
		{1, row(1)}, {2, row(2)}, {5, row(5)}, {8, row(8)}, {10, row(10)}, {1 << 31, row(1 << 31)}, {last - 2, row(last - 2)},
		{7, row(7)}, {last - 1, row(last - 1)},
	} {
		if l := g.Arcs(c.v); !slices.Equal(l, c.want.Arcs) {
			t.Errorf("the arcs of %d are %v, not %v", c.v, l, c.want.Arcs)
		}
	}
}

// TestNear: P15.1, in the direction of an arc and against it, below the first To, between two, above the last one, and of vertices without arcs.
func TestNear(t *testing.T) {
	g := graphOf(t, known())
	for _, c := range []struct {
		v, to uint32
		want  bool
	}{
		{0, 4, true}, {4, 0, true}, {4, 7, true}, {7, 4, false}, {4, 9, true}, {9, 4, false}, {9, 3, true}, {3, 9, false},
		{3, 3, true}, {0, 0, false}, {4, 4, false}, {last, last, false}, {last, last - 1, true}, {last - 1, last, false}, {last, 4, true}, {4, last, false},
		{0, 3, false}, {0, 5, false}, {4, 1, false}, {4, 6, false}, {4, 8, false}, {4, 10, false}, {last, 3, false}, {last, 5, false}, {last, 0, false},
		{1, 4, false}, {1, 0, false}, {5, 0, false}, {10, 3, false}, {7, 7, false}, {7, 0, false}, {last - 1, 4, false},
	} {
		if g.Near(c.v, c.to) != c.want {
			t.Errorf("whether %d is near to %d is %v", c.to, c.v, !c.want)
		}
	}
}

// TestEdges: P15.1, each arc as an edge in ascending order of From, then To, whatever the order in which they came.
func TestEdges(t *testing.T) {
	want := []api.Edge{edge(0, 4, 1), edge(3, 3, 2), edge(4, 0, 9), edge(4, 7, 5), edge(4, 9, 1), edge(9, 3, greatest), edge(last, 4, 6), edge(last, last-1, 2)}
	d := &dice{}
	l := slices.Clone(want)
	for range 100 {
		shuffle(d, l)
		if g, err := Of(l); err != api.OK || !slices.Equal(g.Edges(), want) {
			t.Fatalf("the edges of %v are %v, with error %d", l, g.Edges(), err)
		}
	}
}

// TestVertices: P15.1, those at which an edge begins, ends, or both, once each, in ascending order.
func TestVertices(t *testing.T) {
	for _, c := range []struct {
		rows []api.Row
		want []uint32
	}{
		{nil, nil},
		{[]api.Row{row(5, 5, 1)}, []uint32{5}},
		{[]api.Row{row(0, 0, 1)}, []uint32{0}},
		{[]api.Row{row(last, last, 1)}, []uint32{last}},
		{[]api.Row{row(5, 9, 1)}, []uint32{5, 9}},
		{[]api.Row{row(9, 5, 1)}, []uint32{5, 9}},
		{[]api.Row{row(0, last, 1)}, []uint32{0, last}},
		{[]api.Row{row(last, 0, 1)}, []uint32{0, last}},
		{[]api.Row{row(5, 1, 1, 5, 1, 9, 1)}, []uint32{1, 5, 9}},
		{[]api.Row{row(1, 9, 1), row(2, 9, 1), row(3, 9, 1)}, []uint32{1, 2, 3, 9}},
		{[]api.Row{row(1, 2, 1), row(2, 1, 1)}, []uint32{1, 2}},
		{[]api.Row{row(1, 0, 1, 2, 1, 3, 1), row(2, 0, 1, 1, 1, 3, 1)}, []uint32{0, 1, 2, 3}},
		{[]api.Row{row(6, 1, 1), row(7, 300, 1), row(8, 2, 1)}, []uint32{1, 2, 6, 7, 8, 300}},
		{known(), []uint32{0, 3, 4, 7, 9, last - 1, last}},
	} {
		if l := graphOf(t, c.rows).Vertices(); !slices.Equal(l, c.want) {
			t.Errorf("the vertices of %v are %v, not %v", c.rows, l, c.want)
		}
	}
}

// TestEndsLeft: P15.1, the iterator behind Vertices can be left anywhere.
func TestEndsLeft(t *testing.T) {
	ends := graphOf(t, known()).ends()
	all := slices.Collect(ends)
	for most := 1; most <= len(all); most++ {
		var l []uint32
		for v := range ends {
			if l = append(l, v); len(l) == most {
				break
			}
		}
		if !slices.Equal(l, all[:most]) {
			t.Errorf("left at %d, there are %v, not %v", most, l, all[:most])
		}
	}
}

// TestRowsLeft: P15.1, an iterator that is left at any row gives nothing more; gone through again, it starts from the front.
func TestRowsLeft(t *testing.T) {
	rows := known()
	seq := graphOf(t, rows).Rows()
	for most := 1; most <= len(rows); most++ {
		calls := 0
		seq(func(r api.Row) bool {
			calls++
			return calls < most
		})
		if calls != most {
			t.Errorf("left at row %d, there were %d", most, calls)
		}
		var l []api.Row
		for r := range seq {
			if l = append(l, r); len(l) == most {
				break
			}
		}
		if !sameRows(l, rows[:most]) {
			t.Errorf("left at row %d, there are %v", most, l)
		}
		if l := slices.Collect(seq); !sameRows(l, rows) {
			t.Errorf("again, the rows are %v", l)
		}
	}
}

// TestRowsNested: P15.1, each loop over an iterator has its own place, within another one, and in turn with it; the graph can be asked meanwhile.
func TestRowsNested(t *testing.T) {
	rows := known()
	g := graphOf(t, rows)
	seq := g.Rows()
	var outer []api.Row
	for r := range seq {
		outer = append(outer, r)
		if l := slices.Collect(seq); !sameRows(l, rows) {
			t.Fatalf("within a loop, the rows are %v", l)
		}
		wantGraph(t, g, rows)
	}
	if !sameRows(outer, rows) {
		t.Errorf("around loops, the rows are %v", outer)
	}
	one, stopOne := iter.Pull(seq)
	defer stopOne()
	other, stopOther := iter.Pull(seq)
	defer stopOther()
	for _, want := range rows {
		for _, next := range []func() (api.Row, bool){one, other} {
			if got, ok := next(); !ok || !sameRows([]api.Row{got}, []api.Row{want}) {
				t.Errorf("in turn, a row is %v, not %v", got, want)
			}
		}
	}
}

// spoil writes to all the memory of a list, spare capacity included.
func spoil[T any](l []T, value T) {
	l = l[:cap(l)]
	for i := range l {
		l[i] = value
	}
}

// TestOwn: P0.4, what a graph returns is memory of its own: writing into it, spare capacity included, changes neither the graph nor another result.
func TestOwn(t *testing.T) {
	of, _ := Of(slowEdges(known()))
	for _, g := range []*Graph{graphOf(t, known()), of} {
		edges, vertices, arcs := g.Edges(), g.Vertices(), g.Arcs(4)
		spoil(g.Edges(), edge(8, 8, 8))
		wantGraph(t, g, known())
		spoil(g.Vertices(), 8)
		wantGraph(t, g, known())
		for _, v := range slowVertices(known()) {
			spoil(g.Arcs(v), api.Arc{To: 8, Weight: 8})
			wantGraph(t, g, known())
		}
		if !slices.Equal(edges, slowEdges(known())) || !slices.Equal(vertices, slowVertices(known())) || !slices.Equal(arcs, known()[2].Arcs) {
			t.Errorf("the lists have become %v, %v and %v", edges, vertices, arcs)
		}
	}
}

// TestRowsOwn: P0.4, the rows of an iterator are memory of their own, and so are their arcs, spare capacity included, in each loop.
func TestRowsOwn(t *testing.T) {
	of, _ := Of(slowEdges(known()))
	for _, g := range []*Graph{graphOf(t, known()), of} {
		seq := g.Rows()
		before := slices.Collect(seq)
		var kept []api.Row
		for r := range seq {
			if want := known()[len(kept)]; !sameRows([]api.Row{r}, []api.Row{want}) {
				t.Fatalf("a row is %v, not %v", r, want)
			}
			kept = append(kept, r)
			spoil(r.Arcs, api.Arc{To: 8, Weight: 8})
			wantGraph(t, g, known())
		}
		for i, r := range kept {
			spoil(r.Arcs, api.Arc{To: uint32(i), Weight: 1})
		}
		for i, r := range kept {
			if slices.ContainsFunc(r.Arcs, func(a api.Arc) bool { return a.To != uint32(i) }) {
				t.Errorf("row %d has the memory of another: %v", i, r)
			}
		}
		if !sameRows(before, known()) || !sameRows(slices.Collect(seq), known()) {
			t.Errorf("the rows have become %v", before)
		}
	}
}

// TestGraphsOwn: P0.4, graphs of the same rows or edges have nothing in common, nor has a graph with the one whose rows it was given.
func TestGraphsOwn(t *testing.T) {
	rows := known()
	one, other := graphOf(t, rows), graphOf(t, rows)
	third := graphOf(t, slices.Collect(one.Rows()))
	for _, r := range one.rows {
		clear(r.Arcs)
	}
	wantGraph(t, other, known())
	wantGraph(t, third, known())
	edges := slowEdges(rows)
	one, _ = Of(edges)
	other, _ = Of(edges)
	for i, r := range one.rows {
		spoil(r.Arcs, api.Arc{To: uint32(i), Weight: 1})
		if !sameRows(one.rows[i+1:], known()[i+1:]) {
			t.Errorf("row %d has the memory of another: %v", i, one.rows)
		}
	}
	wantGraph(t, other, known())
}
