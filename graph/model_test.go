package graph

import (
	"iter"
	"maps"
	"math"
	"palmer/api"
	"palmer/mix"
	"slices"
	"testing"
)

const (
	last     = math.MaxUint32 // the greatest number of a vertex
	greatest = 1<<31 - 1      // the greatest sum of weights
)

// dice gives numbers without a pattern, the same in each run.
type dice struct{ n uint64 }

func (d *dice) below(n int) int {
	d.n++
	return int(mix.Mix(d.n) % uint64(n))
}

// someEdges are edges between few vertices, in no order, with equal ones among them.
func someEdges(d *dice, count, vertices int) []api.Edge {
	var l []api.Edge
	for range count {
		l = append(l, api.Edge{From: uint32(d.below(vertices)), To: uint32(d.below(vertices)), Weight: uint32(1 + d.below(5))})
	}
	return l
}

// shuffle brings edges into another order.
func shuffle(d *dice, l []api.Edge) {
	for i := range l {
		j := i + d.below(len(l)-i)
		l[i], l[j] = l[j], l[i]
	}
}

// orders yields the edges of l in each order, in memory that is used again.
func orders(l []api.Edge) iter.Seq[[]api.Edge] {
	return func(yield func([]api.Edge) bool) {
		var from func(int) bool
		from = func(at int) bool {
			if at == len(l) {
				return yield(l)
			}
			for i := at; i < len(l); i++ {
				l[at], l[i] = l[i], l[at]
				more := from(at + 1)
				l[at], l[i] = l[i], l[at]
				if !more {
					return false
				}
			}
			return true
		}
		from(0)
	}
}

// sequences yields all sequences of up to that many things of some kinds.
func sequences[T any](most int, kinds []T) iter.Seq[[]T] {
	return func(yield func([]T) bool) {
		l := [][]T{nil}
		for range most + 1 {
			var next [][]T
			for _, one := range l {
				if !yield(one) {
					return
				}
				for _, kind := range kinds {
					next = append(next, append(slices.Clip(one), kind))
				}
			}
			l = next
		}
	}
}

// row is the row of a vertex whose arcs are at every second number, with their weights behind them.
func row(from uint32, numbers ...uint32) api.Row {
	r := api.Row{From: from}
	for i := 0; i < len(numbers); i += 2 {
		r.Arcs = append(r.Arcs, api.Arc{To: numbers[i], Weight: numbers[i+1]})
	}
	return r
}

// slowNew is the error by the chapter of the first of the rows that has one.
func slowNew(rows []api.Row) api.Errno {
	for i, r := range rows {
		sum := uint64(0)
		for j, a := range r.Arcs {
			sum += uint64(a.Weight)
			if a.Weight == 0 || j > 0 && a.To <= r.Arcs[j-1].To {
				return api.ErrForm
			}
		}
		if len(r.Arcs) == 0 || sum > greatest {
			return api.ErrForm
		}
		if i > 0 && r.From <= rows[i-1].From {
			return api.ErrState
		}
	}
	return api.OK
}

// slowOf are the rows by the chapter of the graph of edges: each From with all that lead to a To.
func slowOf(l []api.Edge) ([]api.Row, api.Errno) {
	weights := map[uint32]map[uint32]uint64{}
	sums := map[uint32]uint64{}
	for _, e := range l {
		if e.Weight == 0 {
			return nil, api.ErrRange
		}
		if weights[e.From] == nil {
			weights[e.From] = map[uint32]uint64{}
		}
		weights[e.From][e.To] += uint64(e.Weight)
		sums[e.From] += uint64(e.Weight)
	}
	var rows []api.Row
	for _, from := range slices.Sorted(maps.Keys(weights)) {
		if sums[from] > greatest {
			return nil, api.ErrOver
		}
		r := api.Row{From: from}
		for _, to := range slices.Sorted(maps.Keys(weights[from])) {
			r.Arcs = append(r.Arcs, api.Arc{To: to, Weight: uint32(weights[from][to])})
		}
		rows = append(rows, r)
	}
	return rows, api.OK
}

// slowEdges are the arcs of rows as edges.
func slowEdges(rows []api.Row) []api.Edge {
	var l []api.Edge
	for _, r := range rows {
		for _, a := range r.Arcs {
			l = append(l, api.Edge{From: r.From, To: a.To, Weight: a.Weight})
		}
	}
	return l
}

// slowVertices are those at which edges of rows begin or end.
func slowVertices(rows []api.Row) []uint32 {
	met := map[uint32]bool{}
	for _, e := range slowEdges(rows) {
		met[e.From], met[e.To] = true, true
	}
	return slices.Sorted(maps.Keys(met))
}

// slowArcs are the arcs of a vertex in rows.
func slowArcs(rows []api.Row, v uint32) []api.Arc {
	var l []api.Arc
	for _, r := range rows {
		if r.From == v {
			l = append(l, r.Arcs...)
		}
	}
	return l
}

// around are some of the vertices of rows, the numbers beside them, and the least and the greatest one.
func around(rows []api.Row) []uint32 {
	l := []uint32{0, 1, last - 1, last}
	vertices := slowVertices(rows)
	for i := 0; i < len(vertices); i += 1 + len(vertices)/40 {
		l = append(l, vertices[i]-1, vertices[i], vertices[i]+1)
	}
	slices.Sort(l)
	return slices.Compact(l)
}

func sameRows(l, other []api.Row) bool {
	return slices.EqualFunc(l, other, func(r, other api.Row) bool {
		return r.From == other.From && slices.Equal(r.Arcs, other.Arcs)
	})
}

// cloned are rows in memory of their own.
func cloned(rows []api.Row) []api.Row {
	l := slices.Clone(rows)
	for i := range l {
		l[i].Arcs = slices.Clone(l[i].Arcs)
	}
	return l
}

// front is the beginning of a list, to be shown.
func front[T any](l []T) []T {
	return l[:min(len(l), 10)]
}

// wantLists says what the functions that list a graph return.
func wantLists(t *testing.T, g *Graph, rows []api.Row) {
	t.Helper()
	if g.Len() != len(rows) {
		t.Fatalf("there are %d rows, not %d: %v", g.Len(), len(rows), front(rows))
	}
	if l := slices.Collect(g.Rows()); !sameRows(l, rows) {
		t.Fatalf("the rows are %v, not %v", front(l), front(rows))
	}
	if l, want := g.Edges(), slowEdges(rows); !slices.Equal(l, want) {
		t.Fatalf("the edges are %v, not %v", front(l), front(want))
	}
	if l, want := g.Vertices(), slowVertices(rows); !slices.Equal(l, want) {
		t.Fatalf("the vertices of %v are %v, not %v", front(rows), front(l), front(want))
	}
}

// wantGraph: P15.1, each function of a graph answers by the chapter, where its rows are these.
func wantGraph(t *testing.T, g *Graph, rows []api.Row) {
	t.Helper()
	wantLists(t, g, rows)
	asked := around(rows)
	for _, v := range asked {
		want := slowArcs(rows, v)
		if l := g.Arcs(v); !slices.Equal(l, want) {
			t.Fatalf("the arcs of %d in %v are %v, not %v", v, front(rows), front(l), front(want))
		}
		for _, to := range asked {
			near := slices.ContainsFunc(want, func(a api.Arc) bool { return a.To == to })
			if g.Near(v, to) != near {
				t.Fatalf("whether %d is near to %d in %v is %v", to, v, front(rows), !near)
			}
		}
	}
}

// wantNew: P15.1, New returns the graph of rows, or no graph and the error by the chapter.
func wantNew(t *testing.T, rows []api.Row) api.Errno {
	t.Helper()
	want := slowNew(rows)
	g, err := New(rows)
	if err != want || err != api.OK && g != nil {
		t.Fatalf("New(%v) is %v and %d, not error %d", front(rows), g, err, want)
	}
	if err == api.OK {
		wantGraph(t, g, rows)
	}
	return want
}

// wantOf: P15.1 and P15.2, Of returns the graph of edges, or no graph and the error by the chapter.
func wantOf(t *testing.T, l []api.Edge) api.Errno {
	t.Helper()
	rows, want := slowOf(l)
	g, err := Of(l)
	if err != want || err != api.OK && g != nil {
		t.Fatalf("Of(%v) is %v and %d, not error %d", front(l), g, err, want)
	}
	if err == api.OK {
		wantGraph(t, g, rows)
	}
	return want
}
