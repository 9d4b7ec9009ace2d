package edge

import (
	"bytes"
	"math"
	"palmer/api"
	"slices"
	"strconv"
	"strings"
	"testing"
)

// numberEdges are numbers beside which something changes: how many digits they have, their bits, or that a limit is there.
var numberEdges = []uint32{
	0, 1, 2, 7, 9, 10, 11, 99, 100, 101, 127, 128, 255, 256, 999, 1000, 9999, 10000, 65535, 65536, 99999, 100000, 999999, 1000000, 9999999, 10000000, 99999999, 100000000, 999999999, 1000000000,
	math.MaxInt32 - 1, math.MaxInt32, math.MaxInt32 + 1, math.MaxUint32 - 1, math.MaxUint32,
}

// slowPrint is the text of edges, by the chapter.
func slowPrint(l []api.Edge) string {
	var lines []string
	for _, e := range l {
		var words []string
		for _, n := range []uint32{e.From, e.To, e.Weight} {
			words = append(words, strconv.FormatUint(uint64(n), 10))
		}
		lines = append(lines, strings.Join(words, " ")+"\n")
	}
	return strings.Join(lines, "")
}

// wantPrint says what the text of edges is.
func wantPrint(t *testing.T, want string, l ...api.Edge) {
	t.Helper()
	if got := Print(l); string(got) != want {
		t.Errorf("Print(%s) is %s, not %s", shownEdges(l), shown(string(got)), shown(want))
	}
}

// someEdges are that many edges with valid Weights, of numbers of all sizes.
func someEdges(n int) []api.Edge {
	var l []api.Edge
	x := uint64(88172645463325252)
	for range n {
		var e [3]uint32
		for i := range e {
			x ^= x << 13
			x ^= x >> 7
			x ^= x << 17
			e[i] = uint32(x>>32) >> (x % 32)
		}
		l = append(l, api.Edge{From: e[0], To: e[1], Weight: max(e[2]%(1<<31), 1)})
	}
	return l
}

// TestPrintNothing: P12.1 and P0.5, without edges there is no text.
func TestPrintNothing(t *testing.T) {
	for _, l := range [][]api.Edge{nil, {}, someEdges(3)[:0], make([]api.Edge, 0, 9)} {
		if b := Print(l); len(b) != 0 {
			t.Errorf("no edges have the text %q", b)
		}
	}
}

// TestPrintKnown: P12.1, one edge and several, in their order, also the same one twice, and each with its Weight, of 1 too.
func TestPrintKnown(t *testing.T) {
	a, b, c := api.Edge{From: 1, To: 2, Weight: 1}, api.Edge{From: 33, To: 4, Weight: 555}, api.Edge{From: 4294967295, To: 0, Weight: 2147483647}
	wantPrint(t, "1 2 1\n", a)
	wantPrint(t, "33 4 555\n", b)
	wantPrint(t, "4294967295 0 2147483647\n", c)
	wantPrint(t, "1 2 1\n33 4 555\n4294967295 0 2147483647\n", a, b, c)
	wantPrint(t, "4294967295 0 2147483647\n33 4 555\n1 2 1\n", c, b, a)
	wantPrint(t, "1 2 1\n1 2 1\n", a, a)
	wantPrint(t, "33 4 555\n1 2 1\n33 4 555\n33 4 555\n", b, a, b, b)
	wantPrint(t, "0 0 1\n", api.Edge{Weight: 1})
	wantPrint(t, "7 4294967295 2147483647\n0 0 1\n", api.Edge{From: 7, To: 1<<32 - 1, Weight: 1<<31 - 1}, api.Edge{Weight: 1})
}

// TestPrintWeights: P12.1, a Weight that no line may have is written like any other, and read as an error.
func TestPrintWeights(t *testing.T) {
	good := api.Edge{From: 1, To: 2, Weight: 3}
	for _, k := range []struct {
		weight uint32
		word   string
	}{
		{0, "0"}, {2147483648, "2147483648"}, {2147483649, "2147483649"}, {4294967295, "4294967295"},
	} {
		bad := api.Edge{From: 8, To: 9, Weight: k.weight}
		wantPrint(t, "8 9 "+k.word+"\n", bad)
		wantPrint(t, "1 2 3\n8 9 "+k.word+"\n1 2 3\n", good, bad, good)
		wantNoRead(t, string(Print([]api.Edge{bad})), 1, api.ErrRange)
		wantNoRead(t, string(Print([]api.Edge{bad, good})), 1, api.ErrRange)
		wantNoRead(t, string(Print([]api.Edge{good, good, bad, good})), 3, api.ErrRange)
	}
	wantPrint(t, "0 0 0\n0 0 0\n", api.Edge{}, api.Edge{})
}

// TestPrintSpecified: P12.1, numbers of each size as From, as To and as Weight, against the chapter.
func TestPrintSpecified(t *testing.T) {
	var l []api.Edge
	for _, from := range numberEdges {
		for _, to := range numberEdges {
			for _, weight := range numberEdges {
				l = append(l, api.Edge{From: from, To: to, Weight: weight})
			}
		}
	}
	for _, e := range l {
		wantPrint(t, slowPrint([]api.Edge{e}), e)
	}
	wantPrint(t, slowPrint(l), l...)
	for n := range 40 {
		wantPrint(t, slowPrint(someEdges(n)), someEdges(n)...)
	}
}

// TestPrintMany: P12.1, Print writes all edges, also more of them than Read takes, and a longer text.
func TestPrintMany(t *testing.T) {
	few := slices.Repeat([]api.Edge{{From: 1, To: 2, Weight: 1}}, api.MaxEdges)
	wantPrint(t, strings.Repeat("1 2 1\n", api.MaxEdges), few...)
	wantRead(t, string(Print(few)), few...)
	many := append(few, api.Edge{From: 3, To: 4, Weight: 5})
	wantPrint(t, strings.Repeat("1 2 1\n", api.MaxEdges)+"3 4 5\n", many...)
	wantNoRead(t, string(Print(many)), api.MaxEdges+1, api.ErrLong)
	long := someEdges(70000)
	wantPrint(t, slowPrint(long), long...)
	wantNoRead(t, string(Print(long)), 0, api.ErrLong)
}

// TestPrintArgument: P0.4, edges are not changed, nor what is behind them in their memory, which is not written either.
func TestPrintArgument(t *testing.T) {
	whole := someEdges(9)
	before := slices.Clone(whole)
	for to := range len(whole) + 1 {
		for from := range to + 1 {
			wantPrint(t, slowPrint(before[from:to]), whole[from:to]...)
			if !slices.Equal(whole, before) {
				t.Fatalf("Print of edges %d to %d has made %v of %v", from, to, whole, before)
			}
		}
	}
}

// TestPrintOwn: P0.4, a text that was returned stays as it is, whatever becomes of the edges and of other results.
func TestPrintOwn(t *testing.T) {
	for n := range 5 {
		l := append(make([]api.Edge, 0, 20), someEdges(n)...)
		want := slowPrint(l)
		one, other := Print(l), Print(l)
		clear(one[:cap(one)])
		_ = append(one[:0], "another text"...)
		clear(l[:cap(l)])
		if string(other) != want {
			t.Errorf("%q has become %q", want, other)
		}
	}
}

// TestReadBack: P12.2, edges with valid Weights are read back, in the same order: each number at each place, and lists of them.
func TestReadBack(t *testing.T) {
	var l []api.Edge
	for _, from := range numberEdges {
		for _, to := range numberEdges {
			for _, weight := range numberEdges {
				e := api.Edge{From: from, To: to, Weight: weight}
				if weight == 0 || weight > api.MaxWeight {
					wantNoRead(t, string(Print([]api.Edge{e})), 1, api.ErrRange)
					continue
				}
				wantRead(t, string(Print([]api.Edge{e})), e)
				l = append(l, e)
			}
		}
	}
	for part := range slices.Chunk(l, 1000) {
		wantRead(t, string(Print(part)), part...)
		slices.Reverse(part)
		wantRead(t, string(Print(part)), part...)
	}
	for n := range 200 {
		wantRead(t, string(Print(someEdges(n))), someEdges(n)...)
	}
	wantRead(t, string(Print(someEdges(30000))), someEdges(30000)...)
}

// TestReadBackLines: P12.2, so it is without the last line feed, and with skipped lines at each place.
func TestReadBackLines(t *testing.T) {
	l := someEdges(50)
	b := Print(l)
	wantRead(t, string(bytes.TrimSuffix(b, []byte("\n"))), l...)
	wantRead(t, strings.ReplaceAll(string(b), "\n", "\n\n# 1 2 3\n \t\n"), l...)
	wantRead(t, "# 1 2 3\n\n"+string(b), l...)
	for _, e := range l {
		if got, ok, err := One(strings.TrimSuffix(string(Print([]api.Edge{e})), "\n")); got != e || !ok || err != api.OK {
			t.Errorf("%v is read back as %v, %v and %d", e, got, ok, err)
		}
	}
}

// TestPrintRead: P12.2, what was read is written as one form of its text, and that is read as the same.
func TestPrintRead(t *testing.T) {
	for _, text := range []string{"1 2\n# a note\n3 4 5\n", "\t7  8 ", "", "\n\n", "0 0 1\n0 0\n", "4294967295\t4294967295\t2147483647"} {
		l, _, err := Read([]byte(text))
		if err != api.OK {
			t.Fatalf("Read(%q) is error %d", text, err)
		}
		b := Print(l)
		wantRead(t, string(b), l...)
		again, _, _ := Read(b)
		if string(Print(again)) != string(b) {
			t.Errorf("%q is written as %q, and then as %q", text, b, Print(again))
		}
	}
}
