package merge

import (
	"bytes"
	"iter"
	"palmer/api"
	"slices"
	"testing"
)

// wantRows says what Rows returns.
func wantRows(t *testing.T, keys [][]byte, want []api.Row, wantErr api.Errno) {
	t.Helper()
	if l, err := Rows(keys); !sameRows(l, want) || err != wantErr {
		t.Errorf("Rows(%q) is %v and %d, not %v and %d", keys[:min(len(keys), 20)], l, err, want, wantErr)
	}
}

// TestRowsNothing: P14.1 and P0.5, without keys there are no rows, and no error.
func TestRowsNothing(t *testing.T) {
	for _, keys := range [][][]byte{nil, {}, make([][]byte, 0, 5), bytesOf(keyed(api.Edge{Weight: 1}, api.Edge{To: 1}))[:0]} {
		wantRows(t, keys, nil, api.OK)
	}
}

// TestRowsKnown: P14.1, one row, and several.
func TestRowsKnown(t *testing.T) {
	for _, k := range knownRows {
		var want []api.Row
		for _, u := range k.want {
			want = append(want, u.row)
		}
		wantRows(t, bytesOf(keyed(k.edges...)), want, api.OK)
	}
}

// TestRowsExample: P14.1, the example of the chapter.
func TestRowsExample(t *testing.T) {
	keys := [][]byte{Key(api.Edge{From: 1, To: 2, Weight: 3}), Key(api.Edge{From: 1, To: 2, Weight: 4})}
	wantRows(t, keys, []api.Row{{From: 1, Arcs: []api.Arc{{To: 2, Weight: 7}}}}, api.OK)
}

// TestRowsWrong: P14.1 and P0.2, beside an error there are no rows, however many are complete ahead of it, and the first key that has one counts.
func TestRowsWrong(t *testing.T) {
	row := keyed(api.Edge{From: 5, To: 1, Weight: 3}, api.Edge{From: 5, To: 5, Weight: 5})
	for complete := range 4 {
		var front []string
		for from := range uint32(complete) {
			front = append(front, slowKey(from, from, 1))
		}
		front = append(front, row...)
		for _, w := range wrongBehind {
			wantRows(t, bytesOf(append(slices.Clone(front), w.key)), nil, w.err)
			for _, other := range wrongBehind {
				wantRows(t, bytesOf(append(slices.Clone(front), w.key, other.key)), nil, w.err)
			}
		}
	}
	for _, key := range [][]byte{nil, {}, make([]byte, 12), make([]byte, 11, 12), make([]byte, 13)} {
		wantRows(t, [][]byte{key}, nil, api.ErrForm)
		wantRows(t, [][]byte{Key(api.Edge{Weight: 1}), key}, nil, api.ErrForm)
		wantRows(t, [][]byte{Key(api.Edge{Weight: 1}), Key(api.Edge{From: 1, Weight: 1}), key}, nil, api.ErrForm)
	}
}

// TestRowsOwn: P0.4, rows are new memory, spare capacity included: writing into one changes no other, and no other result.
func TestRowsOwn(t *testing.T) {
	keys := keyed(someEdges(&dice{}, 60, 6)...)
	given := bytesOf(keys)
	one, _ := Rows(given)
	other, _ := Rows(given)
	want := slices.Clone(other)
	for i := range want {
		want[i].Arcs = slices.Clone(want[i].Arcs)
	}
	for i, row := range one {
		clear(row.Arcs[:cap(row.Arcs)])
		_ = append(row.Arcs[:0], slices.Repeat([]api.Arc{{To: 99, Weight: 99}}, 99)...)
		if !sameRows(one[i+1:], want[i+1:]) {
			t.Fatalf("writing into row %d has changed those behind it: %v", i, one)
		}
	}
	clear(one[:cap(one)])
	_ = append(one[:0], slices.Repeat([]api.Row{{From: 9}}, 99)...)
	for _, key := range given {
		clear(key)
	}
	if !sameRows(other, want) {
		t.Errorf("the rows have become %v", other)
	}
	wantRows(t, bytesOf(keys), want, api.OK)
}

// TestRowsArguments: P0.4, neither the list of keys nor a key is modified, spare capacity included.
func TestRowsArguments(t *testing.T) {
	for n := range 12 {
		keys := keyed(someEdges(&dice{n: uint64(n)}, 12, 4)...)
		keys[n] = "x" // nothing behind it matters
		whole := bytesOf(keys)
		whole[11] = append(whole[11], "and behind it"...)[:len(whole[11])]
		before := slices.Clone(whole)
		for to := range len(whole) + 1 {
			Rows(whole[:to])
			for i, key := range whole {
				if string(key) != keys[i] || &key[0] != &before[i][0] {
					t.Fatalf("key %d of %q has become %q", i, keys, key)
				}
			}
		}
		if behind := whole[11][len(keys[11]) : len(keys[11])+13]; !bytes.Equal(behind, []byte("and behind it")) {
			t.Errorf("behind a key is %q", behind)
		}
	}
}

// TestRowsAgain: P0.6, keys have the same rows whenever they are asked for, also behind others, and behind an error.
func TestRowsAgain(t *testing.T) {
	lists := [][]string{nil, {"x"}, keyed(api.Edge{From: 7, To: 7, Weight: greatest}), keyed(api.Edge{From: 7, To: 7, Weight: 1}), keyed(api.Edge{From: 7, To: 6, Weight: 1}), {slowKey(7, 7, 1), "x"}, {slowKey(0, 0, last)}}
	for _, ahead := range lists {
		for _, keys := range lists {
			Rows(bytesOf(ahead))
			wantSame(t, keys, slowEach(keys))
		}
	}
}

// parts yields all ways to split a weight into weights, in each order.
func parts(weight uint32) iter.Seq[[]uint32] {
	return func(yield func([]uint32) bool) {
		if weight == 0 {
			yield(nil)
			return
		}
		for first := uint32(1); first <= weight; first++ {
			for rest := range parts(weight - first) {
				if !yield(append([]uint32{first}, rest...)) {
					return
				}
			}
		}
	}
}

// TestSplitEach: P14.2, each way to split the weights of a few arcs.
func TestSplitEach(t *testing.T) {
	whole := []api.Edge{{From: 1, To: 2, Weight: 5}, {From: 1, To: 3, Weight: 4}, {From: 2, To: 2, Weight: 3}}
	want, err := Rows(bytesOf(keyed(whole...)))
	if len(want) != 2 || err != api.OK {
		t.Fatalf("the rows are %v with error %d", want, err)
	}
	ways := 0
	for first := range parts(5) {
		for second := range parts(4) {
			for third := range parts(3) {
				var keys [][]byte
				for i, weights := range [][]uint32{first, second, third} {
					for _, weight := range weights {
						keys = append(keys, Key(api.Edge{From: whole[i].From, To: whole[i].To, Weight: weight}))
					}
				}
				slices.SortFunc(keys, bytes.Compare)
				wantRows(t, keys, want, api.OK)
				ways++
			}
		}
	}
	if ways != 16*8*4 {
		t.Errorf("there are %d ways", ways)
	}
}

// split are edges whose weights are those of l, as keys in ascending order.
func split(d *dice, l []api.Edge, most int) [][]byte {
	var keys [][]byte
	for _, e := range l {
		for range d.below(most) {
			if e.Weight == 1 {
				break
			}
			part := uint32(1 + d.below(int(e.Weight-1)))
			keys = append(keys, Key(api.Edge{From: e.From, To: e.To, Weight: part}))
			e.Weight -= part
		}
		keys = append(keys, Key(e))
	}
	slices.SortFunc(keys, bytes.Compare)
	return keys
}

// TestSplitMany: P14.2, graphs without a pattern, whose edges are split without one: also where the weights of a row come to MaxWeight, and where they come to one more, which no way to split them makes less.
func TestSplitMany(t *testing.T) {
	d := &dice{}
	for i := range 200 {
		l := someEdges(d, 1+d.below(40), 1+i%6)
		if i%2 == 0 {
			at := uint32(10 + d.below(2))
			l = append(l, api.Edge{From: at, To: 1, Weight: greatest - 1000}, api.Edge{From: at, To: 2, Weight: 999}, api.Edge{From: at, To: 3, Weight: 1})
		}
		over := append(slices.Clone(l), api.Edge{From: 20, To: 1, Weight: 1000}, api.Edge{From: 20, To: 2, Weight: greatest - 999})
		want, err := Rows(bytesOf(keyed(l...)))
		if err != api.OK {
			t.Fatalf("the rows of %v are error %d", l, err)
		}
		for range 10 {
			wantRows(t, split(d, l, 6), want, api.OK)
			wantRows(t, split(d, over, 6), nil, api.ErrOver)
		}
	}
}
