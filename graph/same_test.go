package graph

import (
	"palmer/api"
	"reflect"
	"slices"
	"testing"
)

// wantSame: P15.2, a graph equals the graph of its edges, in any order, and the graph of its rows.
func wantSame(t *testing.T, d *dice, g *Graph) {
	t.Helper()
	rows := slices.Collect(g.Rows())
	edges := g.Edges()
	again, err := New(rows)
	if err != api.OK || !reflect.DeepEqual(again, g) {
		t.Fatalf("the graph of the rows %v is %v, with error %d", front(rows), again, err)
	}
	wantGraph(t, again, rows)
	for range 4 {
		again, err = Of(edges)
		if err != api.OK || !reflect.DeepEqual(again, g) {
			t.Fatalf("the graph of the edges %v is %v, with error %d", front(edges), again, err)
		}
		wantGraph(t, again, rows)
		shuffle(d, edges)
	}
}

// TestSame: P15.2, graphs of no rows, of one and of several, some of which have few vertices and some the greatest weights.
func TestSame(t *testing.T) {
	d := &dice{}
	for _, rows := range [][]api.Row{nil, {row(0, 0, 1)}, {row(last, last, greatest)}, {row(1, 2, 3), row(2, 1, greatest-1, last, 1)}, known()} {
		wantSame(t, d, graphOf(t, rows))
	}
	for i := range 100 {
		g, err := Of(someEdges(d, d.below(80), 1+i%12))
		if err != api.OK {
			t.Fatalf("there is error %d", err)
		}
		wantSame(t, d, g)
	}
}

// TestSameNil: P15.2, a nil graph equals the graph of its edges and of its rows in all that it answers.
func TestSameNil(t *testing.T) {
	var g *Graph
	rows, err := New(slices.Collect(g.Rows()))
	if err != api.OK {
		t.Errorf("no rows have error %d", err)
	}
	edges, err := Of(g.Edges())
	if err != api.OK {
		t.Errorf("no edges have error %d", err)
	}
	wantEmpty(t, rows)
	wantEmpty(t, edges)
}

// TestSameOrder: P15.2, in each order the edges have the same graph, also where weights of an arc are split over several of them.
func TestSameOrder(t *testing.T) {
	d := &dice{}
	for i := range 30 {
		l := someEdges(d, 1+i%6, 1+i%4)
		want, err := Of(l)
		for order := range orders(l) {
			if g, e := Of(order); e != api.OK || err != api.OK || !reflect.DeepEqual(g, want) {
				t.Fatalf("the graph of %v is %v, with error %d, not %v", order, g, e, want)
			}
		}
	}
}

// TestSameSplit: P15.1 and P15.2, edges between the same two vertices are one arc of all their weights: the graph is that of one edge in their place.
func TestSameSplit(t *testing.T) {
	d := &dice{}
	for i := range 60 {
		whole, _ := Of(someEdges(d, 1+d.below(20), 1+i%6))
		var parts []api.Edge
		for _, e := range whole.Edges() {
			for e.Weight > 1 && d.below(3) > 0 {
				part := uint32(1 + d.below(int(e.Weight-1)))
				parts = append(parts, edge(e.From, e.To, part))
				e.Weight -= part
			}
			parts = append(parts, e)
		}
		shuffle(d, parts)
		if g, err := Of(parts); err != api.OK || !reflect.DeepEqual(g, whole) {
			t.Fatalf("the graph of %v is %v, with error %d, not %v", parts, g, err, whole)
		}
	}
}
