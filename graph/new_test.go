package graph

import (
	"palmer/api"
	"slices"
	"testing"
)

// wantRows says that New returns a graph for rows, and that it is their graph.
func wantRows(t *testing.T, rows ...api.Row) {
	t.Helper()
	if err := wantNew(t, rows); err != api.OK {
		t.Errorf("%v are no graph's rows: error %d", rows, err)
	}
}

// wantWrong says with which error New returns nothing.
func wantWrong(t *testing.T, want api.Errno, rows ...api.Row) {
	t.Helper()
	if err := wantNew(t, rows); err != want {
		t.Errorf("%v have error %d, not %d", rows, err, want)
	}
}

// TestNewNothing: P15.1 and P0.5, of no rows there is an empty graph, and no error.
func TestNewNothing(t *testing.T) {
	wantRows(t)
	for _, rows := range [][]api.Row{nil, {}, make([]api.Row, 0, 5), []api.Row{row(1, 2, 3)}[:0]} {
		wantRows(t, rows...)
	}
}

// TestNewKnown: P15.1, one row and several, with one arc and several, at the edges of what numbers and sums may be.
func TestNewKnown(t *testing.T) {
	wantRows(t, row(1, 2, 3))
	wantRows(t, row(0, 0, 1))
	wantRows(t, row(0, last, 1))
	wantRows(t, row(last, 0, 1))
	wantRows(t, row(last, last, greatest))
	wantRows(t, row(5, 0, 1, 1, 1, 7, 9, last-1, 1, last, 1))
	wantRows(t, row(5, 3, 1, 9, greatest-1))
	wantRows(t, row(5, 3, greatest-2, 9, 1, last, 1))
	wantRows(t, row(0, 1, 1), row(1, 0, 1))
	wantRows(t, row(0, 9, 4), row(last, 9, 4))
	wantRows(t, row(1, 9, 1, 10, 2), row(2, 8, 3), row(40, 0, greatest), row(last-1, 5, 5), row(last, 5, 6, 6, 5))
	wantRows(t, row(3, 3, greatest), row(4, 3, greatest), row(5, 3, greatest-1, 4, 1))
}

// TestNewMany: P15.1, as many rows as a text has edges at most, and one row of as many arcs.
func TestNewMany(t *testing.T) {
	var rows []api.Row
	wide := row(7)
	for i := range uint32(api.MaxEdges) {
		rows = append(rows, row(i*65535, i*65535/2, 1+i%3))
		wide.Arcs = append(wide.Arcs, api.Arc{To: i * 65535, Weight: 1 + i%3})
	}
	wantRows(t, wide)
	g, err := New(rows)
	if err != api.OK {
		t.Fatalf("many rows have error %d", err)
	}
	wantLists(t, g, rows)
	for _, r := range rows {
		if v, to := r.From, r.Arcs[0].To; !slices.Equal(g.Arcs(v), r.Arcs) || !g.Near(v, to) || g.Near(v, to+1) || len(g.Arcs(v+1)) > 0 {
			t.Fatalf("the arcs of %d are %v", v, g.Arcs(v))
		}
	}
}

// formless are arcs of a row that has ErrForm.
var formless = [][]uint32{
	nil,
	{5, 0},
	{5, 1, 6, 0}, {5, 0, 6, 1}, {5, 1, 6, 0, 7, 1}, {0, 0}, {last, 0},
	{5, 1, 5, 1}, {5, 1, 5, 2}, {0, 1, 0, 1}, {last, 1, last, 1}, {4, 1, 5, 1, 5, 1}, {5, 1, 5, 1, 6, 1},
	{5, 1, 4, 1}, {1, 1, 0, 1}, {last, 1, 0, 1}, {3, 1, 5, 1, 4, 1}, {5, 1, 3, 1, 4, 1}, {3, 1, 9, 1, 3, 1},
	{5, greatest + 1}, {5, last}, {0, greatest, 1, 1}, {0, 1, 1, greatest}, {0, 1, 1, greatest - 1, 2, 1},
	{0, last, 1, 1}, {0, last, 1, 1, 2, 1}, {0, last, 1, last}, {0, 1 << 31, 1, 1 << 31}, {0, 1 << 31, 1, 1 << 31, 2, 5},
	{5, 0, 5, 0}, {5, last, 5, last}, {5, 0, 4, last},
}

// TestNewForm: P15.1, a row without arcs, and one whose arcs are not neighbours for each reason, alone, ahead of others, behind them and among them.
func TestNewForm(t *testing.T) {
	for _, numbers := range formless {
		wrong := row(50, numbers...)
		wantWrong(t, api.ErrForm, wrong)
		wantWrong(t, api.ErrForm, wrong, row(60, 1, 1))
		wantWrong(t, api.ErrForm, row(40, 1, 1), wrong)
		wantWrong(t, api.ErrForm, row(1, 1, 1), row(2, 2, 2, 3, 3), wrong, row(60, 1, 1))
		wantWrong(t, api.ErrForm, row(0, numbers...))
		wantWrong(t, api.ErrForm, row(last, numbers...))
	}
	wantWrong(t, api.ErrForm, api.Row{})
	wantWrong(t, api.ErrForm, api.Row{}, api.Row{})
	wantWrong(t, api.ErrForm, api.Row{From: 3, Arcs: make([]api.Arc, 0, 4)})
	wantWrong(t, api.ErrForm, api.Row{From: 3, Arcs: row(3, 1, 1).Arcs[:0]})
}

// TestNewState: P15.1, a From that is equal to the previous one, or less; there is none ahead of the first row.
func TestNewState(t *testing.T) {
	for _, c := range []struct {
		previous, from uint32
		want           api.Errno
	}{
		{0, 0, api.ErrState}, {1, 1, api.ErrState}, {last, last, api.ErrState},
		{1, 0, api.ErrState}, {9, 8, api.ErrState}, {9, 1, api.ErrState}, {last, 0, api.ErrState}, {last, last - 1, api.ErrState}, {1 << 31, 1<<31 - 1, api.ErrState},
		{0, 1, api.OK}, {8, 9, api.OK}, {0, last, api.OK}, {last - 1, last, api.OK}, {1<<31 - 1, 1 << 31, api.OK},
	} {
		wantWrong(t, c.want, row(c.previous, 1, 1), row(c.from, 1, 1))
		wantWrong(t, c.want, row(c.previous, 1, 1), row(c.from, 2, 2, 3, 3))
		if c.previous > 2 {
			wantWrong(t, c.want, row(0, 1, 1), row(1, 1, 1), row(c.previous, 1, 1), row(c.from, 1, 1))
			wantWrong(t, api.ErrState, row(c.previous, 1, 1), row(1, 1, 1), row(c.from, 1, 1))
		}
	}
}

// TestNewPrevious: P15.1, the previous From is that of the row ahead, not the least, the greatest or the first one so far.
func TestNewPrevious(t *testing.T) {
	wantWrong(t, api.ErrState, row(1, 1, 1), row(5, 1, 1), row(3, 1, 1))
	wantWrong(t, api.ErrState, row(1, 1, 1), row(5, 1, 1), row(5, 1, 1))
	wantWrong(t, api.ErrState, row(1, 1, 1), row(5, 1, 1), row(1, 1, 1))
	wantWrong(t, api.ErrState, row(1, 1, 1), row(5, 1, 1), row(6, 1, 1), row(0, 1, 1))
	wantRows(t, row(1, 1, 1), row(5, 1, 1), row(6, 1, 1))
}

// TestNewBoth: P15.1 and P0.2, of a row that has both errors ErrForm is returned.
func TestNewBoth(t *testing.T) {
	for _, numbers := range formless {
		for _, from := range []uint32{0, 40, 50} {
			wantWrong(t, api.ErrForm, row(50, 1, 1), row(from, numbers...))
			wantWrong(t, api.ErrForm, row(1, 1, 1), row(50, 1, 1), row(from, numbers...), row(60, 1, 1))
		}
	}
}

// TestNewFirst: P15.1 and P0.2, the first row that has an error counts, not the one whose error is named first.
func TestNewFirst(t *testing.T) {
	for _, numbers := range formless {
		wantWrong(t, api.ErrState, row(50, 1, 1), row(50, 1, 1), row(60, numbers...))
		wantWrong(t, api.ErrState, row(50, 1, 1), row(49, 1, 1), row(48, numbers...))
		wantWrong(t, api.ErrForm, row(50, 1, 1), row(60, numbers...), row(40, 1, 1))
		wantWrong(t, api.ErrForm, row(50, numbers...), row(40, 1, 1))
	}
}

// TestNewAll: P15.1, all short sequences of rows, with and without errors, against the chapter.
func TestNewAll(t *testing.T) {
	var kinds []api.Row
	for from := range uint32(3) {
		kinds = append(kinds, row(from), row(from, 0, 1), row(from, 0, 1, 1, 2), row(from, 1, 2, 2, greatest-2), row(from, 1, 2, 1, 2), row(from, 2, 1, 1, 1), row(from, 1, 0), row(from, 1, 1, 2, greatest))
	}
	met := map[api.Errno]int{}
	for rows := range sequences(3, kinds) {
		met[wantNew(t, rows)]++
	}
	for _, err := range []api.Errno{api.OK, api.ErrForm, api.ErrState} {
		if met[err] < 50 {
			t.Errorf("error %d was met %d times", err, met[err])
		}
	}
}

// TestNewAgain: P0.6, rows have the same graph, or the same error, whatever was asked for before.
func TestNewAgain(t *testing.T) {
	lists := [][]api.Row{nil, {row(5, 5, 5)}, {row(5, 5, 4)}, {row(5)}, {row(5, 5, 5), row(4, 5, 5)}, {row(4, 1, 1), row(5, 5, 5)}, {row(9, 1, 1)}}
	for _, ahead := range lists {
		for _, rows := range lists {
			wantNew(t, ahead)
			wantNew(t, rows)
		}
	}
}

// TestNewArguments: P0.4, neither the list of rows nor their arcs are modified, spare capacity included.
func TestNewArguments(t *testing.T) {
	for _, wrong := range []api.Row{row(9, 1, 1), row(9), row(9, 2, 1, 1, 1), row(1, 1, 1)} {
		arcs := row(0, 5, 5, 7, 3, 8, 8, 2, 2).Arcs
		whole := []api.Row{row(1, 4, 4), {From: 3, Arcs: arcs[:2]}, wrong, row(1, 2, 3)}
		want := cloned(whole)
		behind := slices.Clone(arcs)
		for n := range len(whole) + 1 {
			New(whole[:n])
			if !sameRows(whole, want) || !slices.Equal(arcs, behind) {
				t.Fatalf("the rows have become %v, and arcs %v", whole, arcs)
			}
		}
	}
}

// TestNewKeepsNothing: P0.4, a graph stays as it is when its rows and their arcs are written to, also where rows have their arcs in the same memory.
func TestNewKeepsNothing(t *testing.T) {
	arcs := row(0, 5, 5, 7, 3, 8, 8).Arcs
	rows := []api.Row{{From: 1, Arcs: arcs}, {From: 2, Arcs: arcs}, {From: 4, Arcs: arcs[1:]}, {From: 6, Arcs: arcs[:1]}}
	want := cloned(rows)
	g, err := New(rows)
	if err != api.OK {
		t.Fatalf("the rows have error %d", err)
	}
	wantGraph(t, g, want)
	clear(arcs)
	wantGraph(t, g, want)
	_ = append(rows[:1], row(9, 9, 9))
	wantGraph(t, g, want)
	clear(rows)
	wantGraph(t, g, want)
}
