package merge

import (
	"iter"
	"math"
	"palmer/api"
	"slices"
	"strconv"
	"strings"
	"testing"
)

// wantNone says that an iterator is there, and gives nothing.
func wantNone(t *testing.T, seq iter.Seq2[api.Row, api.Errno]) {
	t.Helper()
	if seq == nil {
		t.Fatal("no iterator")
	}
	for range 2 {
		for row, err := range seq {
			t.Errorf("of no keys there is %v and %d", row, err)
		}
	}
}

// TestEachNothing: P14.1, P0.1 and P0.5, a nil iterator, and those without keys, have no rows and no error.
func TestEachNothing(t *testing.T) {
	wantNone(t, Each(nil))
	wantNone(t, Each(func(func([]byte) bool) {}))
	for _, keys := range [][][]byte{nil, {}, make([][]byte, 0, 5), bytesOf(keyed(api.Edge{Weight: 1}))[:0]} {
		wantNone(t, Each(slices.Values(keys)))
	}
}

// TestEachExample: P14.1, the example of the chapter.
func TestEachExample(t *testing.T) {
	g := &giver{keys: keyed(api.Edge{From: 1, To: 2, Weight: 3}, api.Edge{From: 1, To: 2, Weight: 4})}
	want := []turn{{api.Row{From: 1, Arcs: []api.Arc{{To: 2, Weight: 7}}}, api.OK, 2}}
	wantTurns(t, g.keys, turns(Each(g.each), g, math.MaxInt), want)
}

// knownRows are keys with their rows, and how many keys were given for each, worked out by hand.
var knownRows = []struct {
	edges []api.Edge
	want  []turn
}{
	{[]api.Edge{{From: 0, To: 0, Weight: 1}}, []turn{{api.Row{From: 0, Arcs: []api.Arc{{To: 0, Weight: 1}}}, api.OK, 1}}},
	{[]api.Edge{{From: last, To: last, Weight: greatest}}, []turn{{api.Row{From: last, Arcs: []api.Arc{{To: last, Weight: greatest}}}, api.OK, 1}}},
	{[]api.Edge{{From: 5, To: 7, Weight: 2}, {From: 5, To: 8, Weight: 1}, {From: 5, To: 300, Weight: 9}}, []turn{
		{api.Row{From: 5, Arcs: []api.Arc{{To: 7, Weight: 2}, {To: 8, Weight: 1}, {To: 300, Weight: 9}}}, api.OK, 3},
	}},
	{[]api.Edge{{From: 1, To: 9, Weight: 1}, {From: 2, To: 8, Weight: 2}, {From: 4, To: 7, Weight: 3}}, []turn{
		{api.Row{From: 1, Arcs: []api.Arc{{To: 9, Weight: 1}}}, api.OK, 2},
		{api.Row{From: 2, Arcs: []api.Arc{{To: 8, Weight: 2}}}, api.OK, 3},
		{api.Row{From: 4, Arcs: []api.Arc{{To: 7, Weight: 3}}}, api.OK, 3},
	}},
	{[]api.Edge{{From: 0, To: 1, Weight: 1}, {From: 0, To: 2, Weight: 1}, {From: last, To: 0, Weight: 1}, {From: last, To: 1, Weight: 1}}, []turn{
		{api.Row{From: 0, Arcs: []api.Arc{{To: 1, Weight: 1}, {To: 2, Weight: 1}}}, api.OK, 3},
		{api.Row{From: last, Arcs: []api.Arc{{To: 0, Weight: 1}, {To: 1, Weight: 1}}}, api.OK, 4},
	}},
	{[]api.Edge{{From: 3, To: 3, Weight: 1}, {From: 3, To: 3, Weight: 2}, {From: 3, To: 3, Weight: 4}, {From: 3, To: 4, Weight: 1}}, []turn{
		{api.Row{From: 3, Arcs: []api.Arc{{To: 3, Weight: 7}, {To: 4, Weight: 1}}}, api.OK, 4},
	}},
	{[]api.Edge{{From: 3, To: 3, Weight: 5}, {From: 3, To: 3, Weight: 5}, {From: 3, To: 3, Weight: 5}}, []turn{
		{api.Row{From: 3, Arcs: []api.Arc{{To: 3, Weight: 15}}}, api.OK, 3},
	}},
	{[]api.Edge{{From: 3, To: 6, Weight: 5}, {From: 3, To: 6, Weight: 5}, {From: 4, To: 6, Weight: 5}, {From: 4, To: 6, Weight: 6}}, []turn{
		{api.Row{From: 3, Arcs: []api.Arc{{To: 6, Weight: 10}}}, api.OK, 3},
		{api.Row{From: 4, Arcs: []api.Arc{{To: 6, Weight: 11}}}, api.OK, 4},
	}},
	{[]api.Edge{{From: 1, To: 2, Weight: 3}, {From: 1, To: 2, Weight: 3}, {From: 1, To: 9, Weight: 1}, {From: 4, To: 0, Weight: greatest}}, []turn{
		{api.Row{From: 1, Arcs: []api.Arc{{To: 2, Weight: 6}, {To: 9, Weight: 1}}}, api.OK, 4},
		{api.Row{From: 4, Arcs: []api.Arc{{To: 0, Weight: greatest}}}, api.OK, 4},
	}},
}

// TestEachKnown: P14.1, keys of one From and of several, the same To several times, keys that are equal: the arcs of each row, when it is given, and that it is given with OK.
func TestEachKnown(t *testing.T) {
	for _, k := range knownRows {
		if got := wantEach(t, keyed(k.edges...)); !slices.EqualFunc(got, k.want, turn.is) {
			t.Errorf("the rows of %v are %v, not %v", k.edges, got, k.want)
		}
	}
}

// TestEachLazy: P14.1, no key is asked for until a row is, and then each one by itself.
func TestEachLazy(t *testing.T) {
	g := &giver{keys: keyed(someEdges(&dice{}, 40, 6)...)}
	seq := Each(g.each)
	if g.given != 0 {
		t.Fatalf("%d keys were given for nothing", g.given)
	}
	next, stop := iter.Pull2(seq)
	defer stop()
	for _, want := range slowEach(g.keys) {
		row, err, ok := next()
		if got := (turn{row, err, g.given}); !ok || !got.is(want) {
			t.Fatalf("there is %v, not %v", got, want)
		}
	}
	if row, err, ok := next(); ok || row.Arcs != nil || err != api.OK {
		t.Errorf("behind the last row there is %v and %d", row, err)
	}
}

// wrongBehind are keys that have an error behind that of the edge from 5 to 5 of weight 5, in the row of another arc of weight 3.
var wrongBehind = []struct {
	key string
	err api.Errno
}{
	{"", api.ErrForm},
	{"\x00\x00\x00\x05\x00\x00\x00\x05\x00\x00\x00", api.ErrForm},
	{"\x00\x00\x00\x05\x00\x00\x00\x05\x00\x00\x00\x05\x00", api.ErrForm},
	{"\x00\x00\x00\x05\x00\x00\x00\x05\x00\x00\x00\x05\x00\x00\x00\x05\x00\x00\x00\x05\x00\x00\x00\x05", api.ErrForm},
	{"\xff\xff\xff\xff\xff\xff\xff\xff\xff\xff\xff", api.ErrForm},
	{slowKey(5, 5, 0), api.ErrForm},
	{slowKey(5, 6, 0), api.ErrForm},
	{slowKey(6, 0, 0), api.ErrForm},
	{slowKey(last, last, 0), api.ErrForm},
	{slowKey(0, 0, 0), api.ErrForm},
	{slowKey(4, 5, 5), api.ErrState},
	{slowKey(4, 6, 6), api.ErrState},
	{slowKey(0, last, 1), api.ErrState},
	{slowKey(5, 4, 5), api.ErrState},
	{slowKey(5, 4, 6), api.ErrState},
	{slowKey(5, 0, greatest-8), api.ErrState},
	{slowKey(5, 5, 4), api.ErrState},
	{slowKey(5, 5, 1), api.ErrState},
	{slowKey(5, 5, greatest-7), api.ErrOver},
	{slowKey(5, 6, greatest-7), api.ErrOver},
	{slowKey(5, last, greatest), api.ErrOver},
	{slowKey(5, 6, greatest+1), api.ErrOver},
	{slowKey(5, 5, last), api.ErrOver},
	{slowKey(6, 0, greatest+1), api.ErrOver},
	{slowKey(6, 5, last), api.ErrOver},
	{slowKey(last, last, last), api.ErrOver},
	// Those with several errors: the first of the three counts.
	{slowKey(4, 5, 0), api.ErrForm},
	{slowKey(5, 4, 0), api.ErrForm},
	{"\x00\x00\x00\x04\xff\xff\xff\xff\xff\xff\xff\xff\xff", api.ErrForm},
	{"\x00\x00\x00\x05\x00\x00\x00\x04\xff\xff\xff", api.ErrForm},
	{"\x00\x00\x00\x00\x00\x00\x00\x00\x00\x00\x00", api.ErrForm},
	{"\x00\x00\x00\x05\x00\x00\x00\x05\x00\x00\x00\x00\x00", api.ErrForm},
	{"\x00\x00\x00\x06\x00\x00\x00\x05\xff\xff\xff\xff\xff", api.ErrForm},
	{slowKey(4, 5, greatest+1), api.ErrState},
	{slowKey(4, 5, last), api.ErrState},
	{slowKey(5, 4, greatest), api.ErrState},
	{slowKey(5, 4, last), api.ErrState},
}

// TestEachWrong: P14.1 and P0.2, a key with each error, in the middle of a row, at another From behind it, behind complete rows, and as the last one: the complete rows, but not the one that no other From has been consumed behind, then the zero row and the error, and nothing more, whatever is behind.
func TestEachWrong(t *testing.T) {
	row := keyed(api.Edge{From: 5, To: 1, Weight: 3}, api.Edge{From: 5, To: 5, Weight: 5})
	fronts := [][]string{
		row,
		append(keyed(api.Edge{From: 1, To: 2, Weight: 3}, api.Edge{From: 1, To: 3, Weight: greatest - 3}), row...),
		append(keyed(api.Edge{From: 0, To: 0, Weight: greatest}, api.Edge{From: 4, To: 9, Weight: 1}), row...),
	}
	behind := [][]string{nil, row, keyed(api.Edge{From: 5, To: 5, Weight: 5}), keyed(api.Edge{From: last, To: last, Weight: 1}), {""}, {slowKey(0, 0, 0)}}
	for _, w := range wrongBehind {
		for i, front := range fronts {
			for _, more := range behind {
				got := wantEach(t, slices.Concat(front, []string{w.key}, more))
				if len(got) != i+1 || !got[i].is(turn{api.Row{}, w.err, len(front) + 1}) {
					t.Errorf("behind %q, %q gives %v, not error %d", front, w.key, got, w.err)
				}
			}
		}
	}
}

// TestEachWrongFirst: P14.1, a key with an error as the first one: no other is less, so it has not twelve bytes, or a weight that is 0 or too great.
func TestEachWrongFirst(t *testing.T) {
	for _, w := range []struct {
		key string
		err api.Errno
	}{
		{"", api.ErrForm}, {strings.Repeat("\x00", 11), api.ErrForm}, {strings.Repeat("\x01", 11), api.ErrForm}, {strings.Repeat("\x01", 13), api.ErrForm}, {strings.Repeat("\x00\x00\x00\x01", 6), api.ErrForm}, {strings.Repeat("\xff", 13), api.ErrForm},
		{slowKey(0, 0, 0), api.ErrForm}, {slowKey(1, 2, 0), api.ErrForm}, {slowKey(last, last, 0), api.ErrForm},
		{slowKey(0, 0, greatest+1), api.ErrOver}, {slowKey(7, 0, greatest+1), api.ErrOver}, {slowKey(last, 0, last), api.ErrOver}, {slowKey(0, last, last), api.ErrOver},
		{slowKey(0, 0, 1), api.OK}, {slowKey(0, 0, greatest), api.OK}, {slowKey(last, last, 1), api.OK}, {slowKey(1, 0, greatest), api.OK},
	} {
		for _, behind := range [][]string{nil, {w.key}, {slowKey(0, 0, 1)}, {slowKey(last, last, 1)}} {
			got := wantEach(t, append([]string{w.key}, behind...))
			if w.err != api.OK && (len(got) != 1 || !got[0].is(turn{api.Row{}, w.err, 1})) {
				t.Errorf("%q gives %v, not error %d", w.key, got, w.err)
			}
		}
	}
}

// TestEachRowAhead: P14.1, the row ahead of a key that has an error is not given, whatever its length, unless a key of another From has been consumed: then the row of that one is not.
func TestEachRowAhead(t *testing.T) {
	for n := 1; n < 30; n++ {
		var keys []string
		for to := range uint32(n) {
			keys = append(keys, slowKey(1, to, 1))
		}
		for _, wrong := range []string{slowKey(1, last, 0), slowKey(2, 0, 0), slowKey(0, last, 1), slowKey(2, 0, greatest+1), slowKey(1, last, greatest), ""} {
			if got := wantEach(t, append(slices.Clone(keys), wrong)); len(got) != 1 || got[0].err == api.OK {
				t.Errorf("%d keys and %q give %v", n, wrong, got)
			}
			got := wantEach(t, append(slices.Clone(keys), slowKey(2, 0, 2), wrong))
			if len(got) != 2 || got[0].given != n+1 || len(got[0].row.Arcs) != n || got[1].err == api.OK {
				t.Errorf("%d keys, one of another From and %q give %v", n, wrong, got)
			}
		}
	}
}

// TestEachSum: P14.1, weights come to MaxWeight without an error, and not to more: of one arc, of several, of one key, and where 32 bits would hold a sum that is too great as a small one.
func TestEachSum(t *testing.T) {
	for _, weights := range [][]uint32{
		{greatest}, {1, greatest - 1}, {greatest / 2, greatest/2 + 1}, {1, 2, greatest - 3}, {1, 1, 1, 1, greatest - 4},
		slices.Repeat([]uint32{1 << 20}, 2047), slices.Repeat([]uint32{1<<26 - 1}, 32),
	} {
		left := uint64(greatest)
		var arcs, one []string
		for i, weight := range weights {
			left -= uint64(weight)
			arcs = append(arcs, slowKey(3, uint32(i), weight))
			one = append(one, slowKey(3, 3, weight))
		}
		for _, keys := range [][]string{arcs, one} {
			to := max(uint32(len(weights)), 4)
			for _, more := range []uint64{1, 2, greatest, greatest + 1, last} {
				want := api.ErrOver
				if more <= left {
					want = api.OK
				}
				if got := wantEach(t, append(slices.Clone(keys), slowKey(3, to, uint32(more)))); len(got) != 1 || got[0].err != want {
					t.Errorf("weights that leave %d and %d more give %v, not error %d", left, more, got, want)
				}
			}
			if left > 0 {
				wantEach(t, append(slices.Clone(keys), slowKey(3, to, uint32(left))))
				wantEach(t, append(slices.Clone(keys), slowKey(3, to, uint32(left+1))))
			}
			if got := wantEach(t, append(slices.Clone(keys), slowKey(4, 0, greatest), slowKey(5, 0, 1), slowKey(5, 1, greatest-1))); len(got) != 3 || got[2].err != api.OK {
				t.Errorf("the sum of one row counts in another: %v", got)
			}
		}
	}
}

// kinds are keys of which all short sequences are made: few numbers, and each error.
func kinds() []string {
	l := []string{"", slowKey(1, 1, 1) + "\x00", slowKey(0, 0, greatest), slowKey(1, 1, greatest-1), slowKey(1, 1, last), slowKey(last, 0, 1), slowKey(1, 0, 0)}
	for _, from := range []uint32{0, 1, 2} {
		for _, to := range []uint32{0, 1} {
			for _, weight := range []uint32{1, 2} {
				l = append(l, slowKey(from, to, weight))
			}
		}
	}
	return l
}

// sequences yields all sequences of up to that many keys of some kinds.
func sequences(most int, kinds []string) iter.Seq[[]string] {
	return func(yield func([]string) bool) {
		l := [][]string{nil}
		for range most + 1 {
			var next [][]string
			for _, keys := range l {
				if !yield(keys) {
					return
				}
				for _, key := range kinds {
					next = append(next, append(slices.Clip(keys), key))
				}
			}
			l = next
		}
	}
}

// TestEachAll: P14.1, all short sequences of keys of each kind, against the chapter.
func TestEachAll(t *testing.T) {
	met := map[api.Errno]int{}
	for keys := range sequences(3, kinds()) {
		for _, u := range wantEach(t, keys) {
			met[u.err]++
		}
	}
	for _, err := range []api.Errno{api.OK, api.ErrForm, api.ErrState, api.ErrOver} {
		if met[err] < 100 {
			t.Errorf("error %d was met %d times", err, met[err])
		}
	}
}

// TestEachMany: P14.1, long sequences without a pattern, most of them with a key that has an error, against the chapter.
func TestEachMany(t *testing.T) {
	d := &dice{}
	for i := range 600 {
		keys := keyed(someEdges(d, d.below(60), 1+i%9)...)
		if d.below(3) > 0 {
			wrong := []string{"x", slowKey(uint32(d.below(9)), 0, 0), slowKey(uint32(d.below(9)), 3, 1), slowKey(uint32(d.below(9)), 9, greatest)}
			keys = slices.Insert(keys, d.below(len(keys)+1), wrong[d.below(4)])
		}
		wantEach(t, keys)
	}
}

// TestEachLong: P14.1, as many keys as a text has edges at most: in one row, in a row each, and of one arc.
func TestEachLong(t *testing.T) {
	const n = api.MaxEdges
	var wide, deep, thin []string
	for i := range uint32(n) {
		wide = append(wide, slowKey(7, i*65535, 1+i%3))
		deep = append(deep, slowKey(i*65535, 7, 1+i%3))
		thin = append(thin, slowKey(7, 7, 1<<15-1))
	}
	g := &giver{keys: wide}
	got := turns(Each(g.each), g, math.MaxInt)
	if len(got) != 1 || got[0].given != n || len(got[0].row.Arcs) != n || got[0].row.Arcs[n-1] != (api.Arc{To: (n - 1) * 65535, Weight: 1 + (n-1)%3}) {
		t.Errorf("one row gives %v", got)
	}
	g.keys = deep
	got = turns(Each(g.each), g, math.MaxInt)
	if len(got) != n || !got[n-1].is(turn{api.Row{From: (n - 1) * 65535, Arcs: []api.Arc{{To: 7, Weight: 1 + (n-1)%3}}}, api.OK, n}) {
		t.Errorf("many rows give %d, the last of them %v", len(got), got[len(got)-1])
	}
	g.keys = thin
	got = turns(Each(g.each), g, math.MaxInt)
	if len(got) != 1 || !got[0].is(turn{api.Row{From: 7, Arcs: []api.Arc{{To: 7, Weight: n * (1<<15 - 1)}}}, api.OK, n}) {
		t.Errorf("one arc gives %v", got)
	}
	g.keys = append(thin, slowKey(7, 7, 1<<16-1), slowKey(7, 7, 1<<16))
	got = turns(Each(g.each), g, math.MaxInt)
	if len(got) != 1 || !got[0].is(turn{api.Row{}, api.ErrOver, n + 2}) {
		t.Errorf("one arc of too much gives %v", got)
	}
}

// TestEachLeft: P14.1, an iterator that is left gives nothing more and consumes no key more, at each of its rows and at the error; gone through again, it starts from the front.
func TestEachLeft(t *testing.T) {
	edges := someEdges(&dice{}, 40, 8)
	whole := keyed(edges...)
	for _, keys := range [][]string{whole, append(slices.Clone(whole), "x", "y"), append(slices.Clone(whole), slowKey(last, 0, 1), "x")} {
		want := slowEach(keys)
		g := &giver{keys: keys}
		seq := Each(g.each)
		for most := 1; most <= len(want); most++ {
			calls := 0
			seq(func(row api.Row, err api.Errno) bool {
				calls++
				if got := (turn{row, err, g.given}); !got.is(want[calls-1]) {
					t.Errorf("row %d is %v, not %v", calls, got, want[calls-1])
				}
				return calls < most
			})
			if calls != most || g.given != want[most-1].given {
				t.Fatalf("left at row %d, there were %d rows of %d keys", most, calls, g.given)
			}
			wantTurns(t, keys, turns(seq, g, most), want[:most])
			wantTurns(t, keys, turns(seq, g, math.MaxInt), want)
		}
	}
}

// TestEachStubborn: P14.1 and P0.1, keys that go on though they were told to stop are consumed no more, behind an iterator that is left and behind an error.
func TestEachStubborn(t *testing.T) {
	whole := keyed(someEdges(&dice{}, 40, 8)...)
	for _, keys := range [][]string{whole, append(slices.Clone(whole[:20]), "x", whole[39]), append([]string{"x"}, whole...)} {
		want := slowEach(keys)
		g := &giver{}
		seq := Each(func(yield func([]byte) bool) {
			g.given = 0
			for _, key := range keys {
				g.given++
				yield([]byte(key))
			}
		})
		for most := 1; most <= len(want); most++ {
			wantTurns(t, keys, turns(seq, g, most), want[:most])
		}
	}
}

// TestEachNested: P14.1, each loop over an iterator has its own state, within another one, and in turn with it.
func TestEachNested(t *testing.T) {
	keys := keyed(someEdges(&dice{}, 30, 5)...)
	seq := Each(slices.Values(bytesOf(keys)))
	var want []api.Row
	for _, u := range slowEach(keys) {
		want = append(want, u.row)
	}
	collect := func() []api.Row {
		var l []api.Row
		for row := range seq {
			l = append(l, row)
		}
		return l
	}
	var outer []api.Row
	for row := range seq {
		outer = append(outer, row)
		if l := collect(); !sameRows(l, want) {
			t.Fatalf("within a loop, the rows are %v", l)
		}
	}
	if !sameRows(outer, want) {
		t.Errorf("around loops, the rows are %v", outer)
	}
	one, stopOne := iter.Pull2(seq)
	defer stopOne()
	other, stopOther := iter.Pull2(seq)
	defer stopOther()
	for _, row := range want {
		for _, next := range []func() (api.Row, api.Errno, bool){one, other} {
			if got, err, ok := next(); !ok || err != api.OK || !sameRows([]api.Row{got}, []api.Row{row}) {
				t.Errorf("in turn, a row is %v, not %v", got, row)
			}
		}
	}
}

// TestEachOtherKeys: P14.1 and P0.6, an iterator that is gone through again has the keys that it is given then.
func TestEachOtherKeys(t *testing.T) {
	d := &dice{}
	g := &giver{}
	seq := Each(g.each)
	for i := range 60 {
		g.keys = keyed(someEdges(d, d.below(30), 1+i%4)...)
		if i%5 == 0 {
			g.keys = append(g.keys, "x")
		}
		wantTurns(t, g.keys, turns(seq, g, math.MaxInt), slowEach(g.keys))
	}
}

// TestEachOneBuffer: P14.1 and P0.4, keys in one piece of memory, which is written to once a key was consumed.
func TestEachOneBuffer(t *testing.T) {
	d := &dice{}
	for i := range 50 {
		keys := keyed(someEdges(d, 40, 1+i%7)...)
		for _, rest := range []byte{0, 1, 255} {
			g := &giver{}
			seq := Each(func(yield func([]byte) bool) {
				buffer := make([]byte, 20)
				g.given = 0
				for _, key := range keys {
					g.given++
					copy(buffer, key)
					if !yield(buffer[:12]) {
						return
					}
					for i := range buffer {
						buffer[i] = rest
					}
				}
			})
			wantTurns(t, keys, turns(seq, g, math.MaxInt), slowEach(keys))
		}
	}
}

// TestEachChanged: P14.1, a key is consumed ahead of the row that it completes: whoever looks at that row may change the keys so far.
func TestEachChanged(t *testing.T) {
	keys := keyed(someEdges(&dice{}, 40, 7)...)
	for _, change := range []byte{0, 1, 255} {
		given := bytesOf(keys)
		g := &giver{}
		want := slowEach(keys)
		seq := Each(func(yield func([]byte) bool) {
			for i, key := range given {
				g.given = i + 1
				if !yield(key) {
					return
				}
			}
		})
		var got []turn
		for row, err := range seq {
			got = append(got, turn{row, err, g.given})
			for _, key := range given[:g.given] {
				for i := range key {
					key[i] = change
				}
			}
		}
		wantTurns(t, keys, got, want)
	}
}

// TestEachOwn: P0.4, each row is new memory, spare capacity included: writing into it changes no other, ahead of it and behind it, of this loop and of others.
func TestEachOwn(t *testing.T) {
	keys := keyed(someEdges(&dice{}, 60, 6)...)
	g := &giver{keys: keys}
	seq := Each(g.each)
	want := slowEach(keys)
	kept := turns(seq, g, math.MaxInt)
	for range 2 {
		i := 0
		for row, err := range seq {
			if got := (turn{row, err, g.given}); !got.is(want[i]) {
				t.Fatalf("row %d is %v, not %v", i, got, want[i])
			}
			clear(row.Arcs[:cap(row.Arcs)])
			_ = append(row.Arcs[:0], slices.Repeat([]api.Arc{{To: 99, Weight: 99}}, 99)...)
			i++
		}
	}
	wantTurns(t, keys, kept, want)
	for i, u := range kept {
		whole := u.row.Arcs[:cap(u.row.Arcs)]
		for j := range whole {
			whole[j] = api.Arc{To: uint32(i), Weight: uint32(i)}
		}
	}
	for i, u := range kept {
		for _, a := range u.row.Arcs {
			if a != (api.Arc{To: uint32(i), Weight: uint32(i)}) {
				t.Fatalf("row %d has the memory of another: %v", i, u)
			}
		}
	}
}

// TestEachArguments: P0.4, keys are not modified, spare capacity included.
func TestEachArguments(t *testing.T) {
	for n := range 30 {
		var given [][]byte
		keys := keyed(someEdges(&dice{n: uint64(n)}, n, 4)...)
		if n%3 == 0 {
			keys = append(keys, "x")
		}
		for i, key := range keys {
			given = append(given, append([]byte(key), "and behind it "+strconv.Itoa(i)...)[:len(key)])
		}
		for range Each(slices.Values(given)) {
		}
		for i, key := range given {
			if got, want := string(key[:len(key)+len("and behind it ")+len(strconv.Itoa(i))]), keys[i]+"and behind it "+strconv.Itoa(i); got != want {
				t.Errorf("%q has become %q", want, got)
			}
		}
	}
}
