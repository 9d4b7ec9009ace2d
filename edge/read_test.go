package edge

import (
	"bytes"
	"palmer/api"
	"slices"
	"strconv"
	"strings"
	"testing"
)

// shown is a text, or its size if it is long.
func shown(text string) string {
	if len(text) > 200 {
		return strconv.Itoa(len(text)) + " bytes"
	}
	return strconv.Quote(text)
}

// shownEdges are edges, or how many there are if they are many.
func shownEdges(l []api.Edge) string {
	if len(l) > 20 {
		return strconv.Itoa(len(l)) + " edges"
	}
	s := "["
	for _, e := range l {
		for _, n := range []uint32{e.From, e.To, e.Weight} {
			s += strconv.FormatUint(uint64(n), 10) + " "
		}
		s += ","
	}
	return s + "]"
}

// slowRead are the edges of a text, by the chapter.
func slowRead(b string) ([]api.Edge, int, api.Errno) {
	if len(b) > 1048576 {
		return nil, 0, api.ErrLong
	}
	lines := strings.Split(b, "\n")
	if lines[len(lines)-1] == "" {
		lines = lines[:len(lines)-1]
	}
	var l []api.Edge
	for i, line := range lines {
		e, ok, err := slowOne(line)
		if err != api.OK {
			return nil, i + 1, err
		}
		if ok {
			l = append(l, e)
		}
		if len(l) > 65536 {
			return nil, i + 1, api.ErrLong
		}
	}
	return l, 0, api.OK
}

// wantRead says which edges a text has.
func wantRead(t *testing.T, b string, want ...api.Edge) {
	t.Helper()
	if l, number, err := Read([]byte(b)); !slices.Equal(l, want) || number != 0 || err != api.OK {
		t.Errorf("Read(%s) is %s, %d and %d, not %s", shown(b), shownEdges(l), number, err, shownEdges(want))
	}
}

// wantNoRead: P12.1 and P0.2, a text has an error in that line, and beside the error there are no edges.
func wantNoRead(t *testing.T, b string, want int, wantErr api.Errno) {
	t.Helper()
	if l, number, err := Read([]byte(b)); len(l) != 0 || number != want || err != wantErr {
		t.Errorf("Read(%s) is %s, %d and %d, not nothing, %d and %d", shown(b), shownEdges(l), number, err, want, wantErr)
	}
}

// wantSlowRead says that a text is what the chapter says.
func wantSlowRead(t *testing.T, b string) {
	t.Helper()
	if l, number, err := slowRead(b); err == api.OK {
		wantRead(t, b, l...)
	} else {
		wantNoRead(t, b, number, err)
	}
}

// wrongLines are lines with an error, of each kind and each word.
var wrongLines = []struct {
	line string
	err  api.Errno
}{
	{"1", api.ErrLine}, {"x", api.ErrLine}, {"1 2 3 4", api.ErrLine}, {"4294967296 x # y z", api.ErrLine}, {"\r", api.ErrLine},
	{"x 2", api.ErrForm}, {"1 x", api.ErrForm}, {"1 2 x", api.ErrForm}, {"1 #", api.ErrForm}, {"1 2 03", api.ErrForm}, {"1 2\r", api.ErrForm}, {"-1 2", api.ErrForm}, {"x 4294967296", api.ErrForm},
	{"4294967296 2", api.ErrRange}, {"1 4294967296", api.ErrRange}, {"1 2 0", api.ErrRange}, {"1 2 2147483648", api.ErrRange}, {"4294967296 x", api.ErrRange},
}

// TestReadExample: P12.1, the example of the chapter.
func TestReadExample(t *testing.T) {
	wantRead(t, "1 2\n# a note\n3 4 5\n", api.Edge{From: 1, To: 2, Weight: 1}, api.Edge{From: 3, To: 4, Weight: 5})
}

// TestReadNothing: P12.1 and P0.5, without bytes there are no edges, whatever they are absent from.
func TestReadNothing(t *testing.T) {
	for _, b := range [][]byte{nil, {}, []byte("1 2\n3 4\n")[:0], []byte("x\n")[:0], make([]byte, 0, 9)} {
		if l, number, err := Read(b); len(l) != 0 || number != 0 || err != api.OK {
			t.Errorf("nothing has %s, %d and %d", shownEdges(l), number, err)
		}
	}
}

// TestReadNoEdges: P12.1, texts of skipped lines alone, one and several, with a line feed at the end and without.
func TestReadNoEdges(t *testing.T) {
	for n := 1; n < 9; n++ {
		wantRead(t, strings.Repeat("\n", n))
	}
	wantRead(t, strings.Repeat("\n", 1<<16+5)) // lines that are skipped may be more than edges
	wantRead(t, strings.Repeat("# a note\n \t\n", 1<<16))
	for _, line := range skippedLines {
		if strings.Contains(line, "\n") {
			continue
		}
		for _, other := range skippedLines {
			if !strings.Contains(other, "\n") {
				wantRead(t, line+"\n"+other)
				wantRead(t, line+"\n"+other+"\n")
			}
		}
		wantRead(t, line)
		wantRead(t, "\n\n"+line+"\n\n\n")
	}
}

// TestReadKnown: P12.1, edges in the order of their lines, also the same one twice, with a line feed at the end and without.
func TestReadKnown(t *testing.T) {
	a, b, c := api.Edge{From: 1, To: 2, Weight: 1}, api.Edge{From: 3, To: 4, Weight: 5}, api.Edge{From: 0, To: 4294967295, Weight: 2147483647}
	for _, k := range []struct {
		text string
		want []api.Edge
	}{
		{"1 2", []api.Edge{a}},
		{"3 4 5", []api.Edge{b}},
		{"1 2\n3 4 5", []api.Edge{a, b}},
		{"3 4 5\n1 2 1", []api.Edge{b, a}},
		{"0 4294967295 2147483647\n1 2\n3 4 5", []api.Edge{c, a, b}},
		{"1 2\n1 2\n1 2 1", []api.Edge{a, a, a}},
		{"\t3  4\t5 \n 1\t2", []api.Edge{b, a}},
		{"\n1 2\n\n\n3 4 5\n\n", []api.Edge{a, b}},
		{"# 1\n# 2\n1 2\n#3 4\n \t\n3 4 5\n# 6 7", []api.Edge{a, b}},
		{"3 4 5\n#\n#\n3 4 5\n \n1 2", []api.Edge{b, b, a}},
	} {
		wantRead(t, k.text, k.want...)
		wantRead(t, k.text+"\n", k.want...)
		wantRead(t, k.text+"\n\n", k.want...)
		wantRead(t, "\n"+k.text, k.want...)
	}
}

// TestReadWrong: P12.1, a line with an error at each place, with lines of each kind ahead of it and behind: its number and its error, and no edge.
func TestReadWrong(t *testing.T) {
	kinds := []string{"", "1 2", "3 4 5", "# a note", " "}
	for _, w := range wrongLines {
		for ahead := range 4 {
			for front := range joined(ahead, kinds, "\n") {
				if ahead > 0 {
					front += "\n"
				}
				wantNoRead(t, front+w.line, ahead+1, w.err)
				for _, behind := range []string{"\n", "\n1 2", "\n1 2\n", "\n\n", "\n# a note\n3 4 5\n"} {
					wantNoRead(t, front+w.line+behind, ahead+1, w.err)
				}
			}
		}
	}
}

// TestReadFirst: P12.1 and P0.2, of several lines with errors, the first one counts.
func TestReadFirst(t *testing.T) {
	for _, w := range wrongLines {
		for _, other := range wrongLines {
			wantNoRead(t, w.line+"\n"+other.line, 1, w.err)
			wantNoRead(t, "1 2\n"+w.line+"\n3 4 5\n"+other.line+"\n", 2, w.err)
			wantNoRead(t, "\n#\n\n"+w.line+"\n\n"+other.line+"\n"+w.line, 4, w.err)
		}
	}
}

// TestReadLate: P12.1, the numbers of lines far behind, and an error in the last one.
func TestReadLate(t *testing.T) {
	for _, n := range []int{1, 9, 10, 127, 128, 255, 256, 257, 1000, 65535, 65536} {
		for _, line := range []string{"\n", "#\n", "1 2\n"} {
			for _, end := range []string{"", "\n", "\n1 2", "\n\n\n"} {
				wantNoRead(t, strings.Repeat(line, n)+"1 2 0"+end, n+1, api.ErrRange)
			}
		}
	}
	wantNoRead(t, strings.Repeat("\n", 1<<20-1)+"1", 1<<20, api.ErrLine)
}

// TestReadEach: P12.1, each short text of lines of each kind, against the chapter.
func TestReadEach(t *testing.T) {
	lines := []string{"", "#", "1 2", "3 4 5", "6", "x 7", "8 9 0"}
	for n := range 5 {
		for text := range joined(n, lines, "\n") {
			wantSlowRead(t, text)
			wantSlowRead(t, text+"\n")
		}
	}
	for n := range 7 {
		for text := range joined(n, []string{" ", "1", "2", "#", "\n", "0"}, "") {
			wantSlowRead(t, text)
		}
	}
}

// TestReadLong: P12.1, a text of MaxText bytes is read, and one of one byte more is not, whatever its lines are.
func TestReadLong(t *testing.T) {
	one := api.Edge{From: 1, To: 2, Weight: 1}
	blanks := strings.Repeat(" ", api.MaxText)
	feeds := strings.Repeat("\n", api.MaxText)
	for _, c := range []struct {
		text string // of MaxText bytes
		want []api.Edge
		line int
		err  api.Errno
	}{
		{feeds, nil, 0, api.OK},
		{blanks, nil, 0, api.OK},
		{"#" + strings.Repeat("x", api.MaxText-1), nil, 0, api.OK},
		{"1 2\n" + feeds[4:], []api.Edge{one}, 0, api.OK},
		{"1 2 " + blanks[4:], []api.Edge{one}, 0, api.OK},
		{feeds[3:] + "1 2", []api.Edge{one}, 0, api.OK},
		{"1" + blanks[2:] + "2", []api.Edge{one}, 0, api.OK},
		{strings.Repeat("1 2            \n", 1<<16), slices.Repeat([]api.Edge{one}, 1<<16), 0, api.OK},
		{"x\n" + feeds[2:], nil, 1, api.ErrLine},
		{feeds[3:] + "1 x", nil, api.MaxText - 2, api.ErrForm},
		{feeds[5:] + "1 2 0", nil, api.MaxText - 4, api.ErrRange},
		{strings.Repeat("1 2\n", api.MaxText/4), nil, api.MaxEdges + 1, api.ErrLong},
		{strings.Repeat("\x00", api.MaxText), nil, 1, api.ErrLine},
		{"1 2" + strings.Repeat("0", api.MaxText-3), nil, 1, api.ErrRange},
		{strings.Repeat("1 ", api.MaxText/2), nil, 1, api.ErrLine},
	} {
		if len(c.text) != 1048576 {
			t.Fatalf("a text of %d bytes", len(c.text))
		}
		if c.err == api.OK {
			wantRead(t, c.text, c.want...)
		} else {
			wantNoRead(t, c.text, c.line, c.err)
		}
		for _, more := range []string{"\n", " ", "#", "1", "x", "\x00", "\n1 2", "\n1 2 3 4\n"} {
			wantNoRead(t, c.text+more, 0, api.ErrLong)
			wantNoRead(t, more+c.text, 0, api.ErrLong)
		}
		wantNoRead(t, c.text+c.text, 0, api.ErrLong)
	}
	for _, size := range []int{api.MaxText + 1, 2 * api.MaxText, 1<<24 + 5, 1 << 25} {
		wantNoRead(t, string(make([]byte, size)), 0, api.ErrLong)
	}
}

// TestReadMany: P12.1, a text of MaxEdges edges is read, also with skipped lines at each place, and one of one edge more is not: the line of that edge is the wrong one.
func TestReadMany(t *testing.T) {
	many := strings.Repeat("1 2\n", api.MaxEdges)
	want := slices.Repeat([]api.Edge{{From: 1, To: 2, Weight: 1}}, api.MaxEdges)
	half := len(many) / 2
	for _, skip := range []string{"", "\n", "#\n", "# a note\n\n \t\n#\n", strings.Repeat("\n", 1<<17)} {
		lines := strings.Count(skip, "\n")
		for _, text := range []string{many + skip, skip + many, many[:half] + skip + many[half:]} {
			wantRead(t, text, want...)
			for _, line := range []string{"1 2", "3 4 5"} {
				for _, end := range []string{"", "\n1 2\n", "\nx"} {
					wantNoRead(t, text+line+end, api.MaxEdges+lines+1, api.ErrLong)
				}
			}
		}
		wantRead(t, many[:len(many)-1]+"\n"+strings.TrimSuffix(skip, "\n"), want...)
		wantRead(t, many[4:]+skip, want[1:]...)
		wantRead(t, many[4:]+skip+"1 2 1", want...)
	}
}

// TestReadManyWrong: P12.1, the error of a line is its own behind MaxEdges edges too, and counts ahead of an edge too many if its line is ahead of it.
func TestReadManyWrong(t *testing.T) {
	many := strings.Repeat("1 2\n", api.MaxEdges)
	for _, w := range wrongLines {
		wantNoRead(t, many+w.line, api.MaxEdges+1, w.err)
		wantNoRead(t, many+w.line+"\n1 2\n", api.MaxEdges+1, w.err)
		wantNoRead(t, many+"#\n\n"+w.line+"\n1 2", api.MaxEdges+3, w.err)
		wantNoRead(t, many+"#\n\n1 2\n"+w.line, api.MaxEdges+3, api.ErrLong)
		wantNoRead(t, w.line+"\n"+many+"1 2", 1, w.err)
		wantNoRead(t, many[4:]+w.line+"\n1 2\n1 2", api.MaxEdges, w.err)
		wantNoRead(t, many[:400]+w.line+"\n"+many+"1 2", 101, w.err)
	}
}

// TestReadBehind: P12.1 and P0.4, bytes around those of the text, in its spare capacity too, are none of its lines, and nothing of them is changed.
func TestReadBehind(t *testing.T) {
	whole := []byte("1 2\n\n# a\n3 4 5\n66 77\n8 9 x\n")
	before := bytes.Clone(whole)
	for to := range len(whole) + 1 {
		for from := range to + 1 {
			l, number, err := Read(whole[from:to])
			want, wantNumber, wantErr := slowRead(string(whole[from:to]))
			if !slices.Equal(l, want) || number != wantNumber || err != wantErr {
				t.Errorf("Read(%q) is %s, %d and %d, not %s, %d and %d", whole[from:to], shownEdges(l), number, err, shownEdges(want), wantNumber, wantErr)
			}
			if !bytes.Equal(whole, before) {
				t.Fatalf("Read(%q) has made %q of %q", before[from:to], whole, before)
			}
		}
	}
}

// TestReadOwn: P0.4, edges that were returned stay as they are, whatever becomes of the text and of other results.
func TestReadOwn(t *testing.T) {
	b := append(make([]byte, 0, 100), "1 2\n# a note\n3 4 5\n"...)
	want := []api.Edge{{From: 1, To: 2, Weight: 1}, {From: 3, To: 4, Weight: 5}}
	one, _, _ := Read(b)
	other, _, _ := Read(b)
	clear(one[:cap(one)])
	_ = append(one[:0], api.Edge{From: 9}, api.Edge{From: 9}, api.Edge{From: 9})
	if !slices.Equal(other, want) {
		t.Errorf("one result has changed another: %v", other)
	}
	if string(b) != "1 2\n# a note\n3 4 5\n" {
		t.Errorf("the text has become %q", b)
	}
	clear(b[:cap(b)])
	if !slices.Equal(other, want) {
		t.Errorf("a result follows its text: %v", other)
	}
	wantRead(t, "1 2\n3 4 5", want...)
}

// TestReadAgain: P0.6, a text has the same edges whenever it is read, also behind one with an error.
func TestReadAgain(t *testing.T) {
	texts := []string{"", "1 2\n3 4 5", "7 8\n9", "x y", "\n# a\n5 6", strings.Repeat("1 2\n", 1<<16+1), strings.Repeat("\n", 1<<20+1)}
	for _, ahead := range texts {
		for _, text := range texts {
			Read([]byte(ahead))
			wantSlowRead(t, text)
		}
	}
}
