package merge

import (
	"encoding/binary"
	"iter"
	"maps"
	"math"
	"palmer/api"
	"palmer/mix"
	"slices"
	"strconv"
	"testing"
)

const (
	last     = math.MaxUint32 // the greatest number of a vertex
	greatest = 1<<31 - 1      // the greatest sum of weights
)

// numberEdges are numbers at their edges, in ascending order.
var numberEdges = []uint32{0, 1, 2, 127, 128, 255, 256, 257, 65535, 65536, 1<<24 - 1, 1 << 24, greatest - 1, greatest, greatest + 1, last - 1, last}

// dice gives numbers without a pattern, the same in each run.
type dice struct{ n uint64 }

func (d *dice) wide() uint64 {
	d.n++
	return mix.Mix(d.n)
}

func (d *dice) below(n int) int {
	return int(d.wide() % uint64(n))
}

// slowKey is the key of an edge by the chapter, by the library.
func slowKey(from, to, weight uint32) string {
	b := binary.BigEndian.AppendUint32(nil, from)
	b = binary.BigEndian.AppendUint32(b, to)
	return string(binary.BigEndian.AppendUint32(b, weight))
}

// slowNumber is number i of a key.
func slowNumber(key string, i int) uint32 {
	return binary.BigEndian.Uint32([]byte(key[4*i:]))
}

// keyed are the keys of edges, in that order.
func keyed(l ...api.Edge) []string {
	var keys []string
	for _, e := range l {
		keys = append(keys, slowKey(e.From, e.To, e.Weight))
	}
	return keys
}

// turn is what an iterator gives at a time, and how many keys it was given by then.
type turn struct {
	row   api.Row
	err   api.Errno
	given int
}

func (u turn) is(v turn) bool {
	return u.row.From == v.row.From && slices.Equal(u.row.Arcs, v.row.Arcs) && u.err == v.err && u.given == v.given
}

// String shows a turn, but no more than some arcs of it.
func (u turn) String() string {
	s := "behind " + strconv.Itoa(u.given) + " keys error " + strconv.Itoa(int(u.err)) + " and " + strconv.FormatUint(uint64(u.row.From), 10) + " with " + strconv.Itoa(len(u.row.Arcs)) + " arcs:"
	for _, a := range u.row.Arcs[:min(len(u.row.Arcs), 5)] {
		s += " to " + strconv.FormatUint(uint64(a.To), 10) + " of " + strconv.FormatUint(uint64(a.Weight), 10)
	}
	return s
}

// slowRow is the row of a vertex by the chapter: each To with all that its keys weigh.
func slowRow(keys []string, from uint32) api.Row {
	weights := map[uint32]uint32{}
	for _, key := range keys {
		if slowNumber(key, 0) == from {
			weights[slowNumber(key, 1)] += slowNumber(key, 2)
		}
	}
	row := api.Row{From: from}
	for _, to := range slices.Sorted(maps.Keys(weights)) {
		row.Arcs = append(row.Arcs, api.Arc{To: to, Weight: weights[to]})
	}
	return row
}

// slowErr is the error by the chapter of a key behind others, which have none.
func slowErr(before []string, key string) api.Errno {
	switch {
	case len(key) != 12 || key[8:] == "\x00\x00\x00\x00":
		return api.ErrForm
	case len(before) > 0 && key < before[len(before)-1]:
		return api.ErrState
	}
	sum := uint64(slowNumber(key, 2))
	for _, other := range before {
		if other[:4] == key[:4] {
			sum += uint64(slowNumber(other, 2))
		}
	}
	if sum > greatest {
		return api.ErrOver
	}
	return api.OK
}

// slowEach is what there is to be given for keys by the chapter.
func slowEach(keys []string) []turn {
	var l []turn
	from := uint32(0)
	for i, key := range keys {
		if err := slowErr(keys[:i], key); err != api.OK {
			return append(l, turn{api.Row{}, err, i + 1})
		}
		if i > 0 && slowNumber(key, 0) != from {
			l = append(l, turn{slowRow(keys[:i], from), api.OK, i + 1})
		}
		from = slowNumber(key, 0)
	}
	if len(keys) > 0 {
		l = append(l, turn{slowRow(keys, from), api.OK, len(keys)})
	}
	return l
}

// giver gives keys one after the other, and counts them.
type giver struct {
	keys  []string
	given int
	ended bool // it came to the end, without having been told to stop
}

// each gives each key in memory of its own.
func (g *giver) each(yield func([]byte) bool) {
	g.given, g.ended = 0, false
	for _, key := range g.keys {
		g.given++
		if !yield([]byte(key)) {
			return
		}
	}
	g.ended = true
}

// turns are all that an iterator over the rows of a giver's keys gives, or no more than most.
func turns(seq iter.Seq2[api.Row, api.Errno], g *giver, most int) []turn {
	var l []turn
	for row, err := range seq {
		l = append(l, turn{row, err, g.given})
		if len(l) == most {
			break
		}
	}
	return l
}

func wantTurns(t *testing.T, keys []string, got, want []turn) {
	t.Helper()
	if !slices.EqualFunc(got, want, turn.is) {
		t.Fatalf("of %d keys, the rows of %q are %v, not %v", len(keys), keys[:min(len(keys), 20)], got, want)
	}
}

// wantEach: P14.1, the rows of keys are as the chapter says, each given when it is to be, by Each and by Rows, and a key that has an error is the last to be asked for.
func wantEach(t *testing.T, keys []string) []turn {
	t.Helper()
	want := slowEach(keys)
	g := &giver{keys: keys}
	wantTurns(t, keys, turns(Each(g.each), g, math.MaxInt), want)
	failed := len(want) > 0 && want[len(want)-1].err != api.OK
	if failed && g.given != want[len(want)-1].given || failed == g.ended {
		t.Fatalf("of the keys %q, %d were asked for, and the end: %v", keys, g.given, g.ended)
	}
	wantSame(t, keys, want)
	return want
}

// wantSame: P14.1 and P0.2, Rows returns what Each gives, or nothing but the error.
func wantSame(t *testing.T, keys []string, want []turn) {
	t.Helper()
	wantErr := api.OK
	var wantRows []api.Row
	for _, u := range want {
		wantRows = append(wantRows, u.row)
		wantErr = u.err
	}
	if wantErr != api.OK {
		wantRows = nil
	}
	if l, err := Rows(bytesOf(keys)); err != wantErr || !sameRows(l, wantRows) {
		t.Fatalf("of the keys %q, Rows is %d and %v, not %d and %v", keys[:min(len(keys), 20)], err, l[:min(len(l), 5)], wantErr, wantRows[:min(len(wantRows), 5)])
	}
}

func sameRows(l, other []api.Row) bool {
	return slices.EqualFunc(l, other, func(row, other api.Row) bool {
		return row.From == other.From && slices.Equal(row.Arcs, other.Arcs)
	})
}

// bytesOf are keys as bytes, each in memory of its own.
func bytesOf(keys []string) [][]byte {
	var l [][]byte
	for _, key := range keys {
		l = append(l, []byte(key))
	}
	return l
}

// someEdges are edges between few vertices, with equal ones among them, in the order of their keys.
func someEdges(d *dice, count, vertices int) []api.Edge {
	var l []api.Edge
	for range count {
		l = append(l, api.Edge{From: uint32(d.below(vertices)), To: uint32(d.below(vertices)), Weight: uint32(1 + d.below(5))})
	}
	slices.SortFunc(l, compareEdges)
	return l
}

// compareEdges compares by From, then To, then Weight.
func compareEdges(e, other api.Edge) int {
	for _, pair := range [][2]uint32{{e.From, other.From}, {e.To, other.To}, {e.Weight, other.Weight}} {
		switch {
		case pair[0] < pair[1]:
			return -1
		case pair[0] > pair[1]:
			return 1
		}
	}
	return 0
}
