package job

import (
	"math"
	"math/rand"
	"palmer/api"
	"slices"
	"strconv"
	"strings"
	"testing"
)

// rightLines is a line for each keyword.
var rightLines = []string{
	"walk second", "seed 9", "length 8", "walks 7", "restart 2 3", "bias 5 6", "tries 12", "best 13", "shard 14", "room 15", "pool 16", "sort 17", "source 18",
}

// rightJob is the job of all of rightLines.
var rightJob = api.Job{
	Kind: api.Second, Seed: 9, Length: 8, Walks: 7, Sources: []uint32{18}, Stop: 2, Of: 3, P: 5, Q: 6, Tries: 12, Best: 13,
	Budget: api.Budget{Shard: 14, Room: 15, Pool: 16, Sort: 17},
}

// skippedLines are lines that are skipped: without words, and comments.
var skippedLines = []string{"", " ", "\t", " \t \t ", "#", "# a note", "#walk fixed", "##", " # walk x", "\t#\t", "#\r", "# source 1", "#\x00\xff"}

// wrongLines are lines with an error, of each kind, wherever they are.
var wrongLines = []struct {
	line string
	err  api.Errno
}{
	{"x", api.ErrLine}, {"Source 1", api.ErrLine}, {"walk", api.ErrLine}, {"source 1 2", api.ErrLine}, {"restart 1", api.ErrLine}, {"bias x", api.ErrLine}, {"1", api.ErrLine}, {"\r", api.ErrLine},
	{"walk x", api.ErrForm}, {"source x", api.ErrForm}, {"seed 01", api.ErrForm}, {"restart x 0", api.ErrForm}, {"bias 1 -1", api.ErrForm}, {"source 5\r", api.ErrForm},
	{"walks 0", api.ErrRange}, {"source 4294967296", api.ErrRange}, {"bias 0 x", api.ErrRange}, {"restart 1 0", api.ErrRange}, {"restart 3 2", api.ErrRange}, {"pool 1", api.ErrRange},
}

// noNumbers are words that are no numbers.
var noNumbers = []string{
	"x", "-", "+", "-1", "+1", "--1", "-0", "+0", "1-", "00", "01", "007", "0x1", "0b1", "0o7", "1e3", "1.0", "1.", ".1", "1,0", "1_000", "1x", "x1", "#", "#1", "1#", "٣", "１", "1\r", "\r1", "\v1", "1\x00", "\x00", "\xff", "1\xa0", "fixed", "seed", "nil", "-18446744073709551616", "018446744073709551616",
	"99999999999999999999x", "1/2", "½", "∞", "NaN",
}

// greatNumbers are numbers that exceed 64 bits.
var greatNumbers = []string{"18446744073709551616", "18446744073709551617", "18446744073709551626", "99999999999999999999", "36893488147419103232", "340282366920938463463374607431768211456", "1" + strings.Repeat("0", 1000)}

// num is the word of a number.
func num(n uint64) string {
	return strconv.FormatUint(n, 10)
}

// TestReadExample: P19.1, "source 5" is one fixed walk of ten steps from the vertex 5, and all that it does not tell has its default.
func TestReadExample(t *testing.T) {
	want := api.Job{Kind: api.Fixed, Length: 10, Walks: 1, Sources: []uint32{5}, Of: 1, P: 1, Q: 1, Tries: 100, Best: 10, Budget: api.Budget{Shard: 1024, Room: 4096, Pool: 64, Sort: 64}}
	for _, b := range []string{"source 5", "source 5\n", "\n\nsource 5", " source\t5 \n# a note"} {
		wantRead(t, b, want)
	}
	if n := Walkers(want); n != 1 {
		t.Errorf("the example has %d walkers", n)
	}
}

// TestReadNothing: P19.1 and P0.5, a text without a source, of no lines, of skipped ones and of keywords, has no job, with a line feed at the end and without.
func TestReadNothing(t *testing.T) {
	for _, b := range [][]byte{nil, {}, []byte("source 1\n")[:0], make([]byte, 0, 9)} {
		if j, number, err := Read(b); !same(j, api.Job{}) || number != 0 || err != api.ErrArg {
			t.Errorf("nothing is %s, %d and %d", shown(j), number, err)
		}
	}
	for _, line := range skippedLines {
		for _, other := range skippedLines {
			wantNoRead(t, line, 0, api.ErrArg)
			wantNoRead(t, line+"\n"+other, 0, api.ErrArg)
			wantNoRead(t, line+"\n\n"+other+"\n", 0, api.ErrArg)
		}
	}
	rest := strings.Join(rightLines[:12], "\n")
	wantNoRead(t, rest, 0, api.ErrArg)
	wantNoRead(t, rest+"\n", 0, api.ErrArg)
	wantNoRead(t, rest+"\n# source 1\n", 0, api.ErrArg)
	for _, line := range rightLines[:12] {
		wantNoRead(t, line, 0, api.ErrArg)
		wantNoRead(t, "\n"+line+"\n", 0, api.ErrArg)
	}
}

// TestReadKinds: P19.1, each kind of walks by itself, and words that are none of them.
func TestReadKinds(t *testing.T) {
	for _, k := range []struct {
		word string
		kind uint8
	}{{"fixed", api.Fixed}, {"restart", api.Restart}, {"second", api.Second}} {
		want := plain(7)
		want.Kind = k.kind
		wantRead(t, "walk "+k.word+"\nsource 7", want)
		wantRead(t, "source 7\nwalk "+k.word+"\n", want)
	}
	words := append(slices.Clone(noNumbers[:5]), greatNumbers...)
	for _, word := range append(words, "0", "1", "2", "3", "Fixed", "FIXED", "fixe", "fixedd", "f", "ixed", "Restart", "restar", "restarts", "second-order", "seconds", "sec", "walk", "source", "first", "fixed\r", "#fixed", "\xff") {
		wantNoRead(t, "source 7\nwalk "+word, 2, api.ErrForm)
	}
}

// TestReadLimits: P19.1, each keyword by itself, the rest at their defaults: a number at its limits and between them, and one beyond each.
func TestReadLimits(t *testing.T) {
	for _, r := range table {
		for _, n := range []uint64{r.least, r.least + 1, r.usual, 77, r.most / 2, r.most - 1, r.most} {
			want := r.with(n)
			wantRead(t, r.line(num(n))+"\nsource 7", want)
			wantRead(t, "source 7\n"+r.line(num(n))+"\n", want)
		}
		for _, n := range []uint64{0, r.least - 1, r.most + 1, r.most + 2, r.most * 2, r.most + 1<<32, r.most + 1<<63, math.MaxUint64} {
			if n < r.least || n > r.most {
				wantNoRead(t, "source 7\n"+r.line(num(n)), 2, api.ErrRange)
			}
		}
		for _, word := range greatNumbers {
			wantNoRead(t, r.line(word)+"\nsource 7", 1, api.ErrRange)
		}
	}
}

// TestReadNoNumbers: P19.1, operands that are no numbers, of each keyword.
func TestReadNoNumbers(t *testing.T) {
	for _, word := range noNumbers {
		for _, r := range table {
			wantNoRead(t, "source 7\n"+r.line(word)+"\n", 2, api.ErrForm)
		}
		wantNoRead(t, "source "+word, 1, api.ErrForm)
		wantNoRead(t, "source 7\nsource "+word, 2, api.ErrForm)
	}
}

// TestReadSources: P19.1, sources of all sizes, in the order of their lines, and numbers that are none.
func TestReadSources(t *testing.T) {
	for _, l := range [][]uint32{{0}, {math.MaxUint32}, {3, 1, 2}, {9, 0, math.MaxUint32, 5}, {0, 1 << 8, 1 << 16, 1 << 24}, {1 << 31, 1<<31 - 1}, count(255), count(256)} {
		wantRead(t, sourceLines(l), plain(l...))
		wantRead(t, strings.TrimSuffix(sourceLines(l), "\n"), plain(l...))
		wantRead(t, "# a note\n\n"+strings.ReplaceAll(sourceLines(l), "\n", "\n\n# source 1\n \t\n"), plain(l...))
	}
	for _, word := range append(greatNumbers, "4294967296", "4294967297", "8589934592", "18446744073709551615") {
		wantNoRead(t, "source "+word, 1, api.ErrRange)
		wantNoRead(t, "source 7\nsource "+word, 2, api.ErrRange)
	}
}

// TestReadSourceTwice: P19.1, a source that occurred, in the line ahead and much earlier.
func TestReadSourceTwice(t *testing.T) {
	wantNoRead(t, "source 1\nsource 1", 2, api.ErrState)
	wantNoRead(t, "source 0\nsource 0\n", 2, api.ErrState)
	wantNoRead(t, "source 1\n\n# a note\nseed 4\nsource 1\n", 5, api.ErrState)
	wantNoRead(t, "source 4294967295\nsource 1\nsource 4294967295\nsource 1\n", 3, api.ErrState)
	for _, n := range []int{1, 2, 9, 100, 254, 255, 256} {
		l := count(n)
		for _, i := range []int{0, n / 2, n - 1} {
			wantNoRead(t, sourceLines(l)+"source "+num(uint64(l[i])), n+1, api.ErrState)
			wantNoRead(t, sourceLines(l)+"walk second\nsource "+num(uint64(l[i]))+"\nsource x", n+2, api.ErrState)
		}
	}
}

// TestReadSourcesMany: P19.1, a source as the 256th, and as the 257th, which is first one that occurred, or no source at all, and only then one too many.
func TestReadSourcesMany(t *testing.T) {
	l := count(257)
	most := sourceLines(l[:256])
	wantRead(t, most, plain(l[:256]...))
	for _, end := range []string{"", "\n", "\nsource 1", "\nx"} {
		wantNoRead(t, most+"source "+num(uint64(l[256]))+end, 257, api.ErrLong)
		wantNoRead(t, most+"\n# a note\nseed 1\nsource "+num(uint64(l[256]))+end, 260, api.ErrLong)
		wantNoRead(t, most+"source "+num(uint64(l[0]))+end, 257, api.ErrState)
		wantNoRead(t, most+"source "+num(uint64(l[255]))+end, 257, api.ErrState)
		wantNoRead(t, most+"source x"+end, 257, api.ErrForm)
		wantNoRead(t, most+"source 4294967296"+end, 257, api.ErrRange)
		wantNoRead(t, most+"source"+end, 257, api.ErrLine)
	}
	wantNoRead(t, sourceLines(count(300)), 257, api.ErrLong)
	want := plain(l[:256]...)
	want.Seed = 5
	wantRead(t, most+"seed 5\n", want)
}

// TestReadOrder: P19.1, the lines of all keywords in any order, with skipped ones between them.
func TestReadOrder(t *testing.T) {
	r := rand.New(rand.NewSource(7))
	lines := slices.Clone(rightLines)
	for range 300 {
		wantRead(t, strings.Join(lines, "\n"), rightJob)
		wantRead(t, strings.Join(lines, "\n\n# a note\n")+"\n", rightJob)
		r.Shuffle(len(lines), func(i, k int) { lines[i], lines[k] = lines[k], lines[i] })
	}
	slices.Sort(lines)
	wantRead(t, strings.Join(lines, "\n"), rightJob)
	slices.Reverse(lines)
	wantRead(t, strings.Join(lines, "\n"), rightJob)
}

// TestReadWithout: P19.1, all keywords but one, whose field has its default.
func TestReadWithout(t *testing.T) {
	for i, line := range rightLines[:12] {
		keyword, _, _ := strings.Cut(line, " ")
		want := rightJob
		for _, r := range table {
			if r.keyword == keyword {
				at(&want, r.field).SetUint(r.usual)
			}
		}
		if keyword == "walk" {
			want.Kind = api.Fixed
		}
		wantRead(t, strings.Join(slices.Delete(slices.Clone(rightLines), i, i+1), "\n"), want)
	}
}

// TestReadBlanks: P19.1, tabs, several blanks, and blanks ahead of the words and behind them; other kinds of space are none.
func TestReadBlanks(t *testing.T) {
	for _, blank := range []string{" ", "\t", "  ", "\t\t", " \t ", strings.Repeat(" \t", 50)} {
		for _, ahead := range []string{"", blank} {
			for _, behind := range []string{"", blank} {
				text := ""
				for _, line := range rightLines {
					text += ahead + strings.ReplaceAll(line, " ", blank) + behind + "\n"
				}
				wantRead(t, text, rightJob)
				wantRead(t, strings.TrimSuffix(text, "\n"), rightJob)
			}
		}
	}
	for _, space := range []string{"\r", "\v", "\f", "\x00", "\u00a0", "\u2003", ",", "=", ":"} {
		wantNoRead(t, "source"+space+"5", 1, api.ErrLine)
		wantNoRead(t, "source 5"+space, 1, api.ErrForm)
		wantNoRead(t, space+"source 5", 1, api.ErrLine)
	}
}

// TestReadSkipped: P19.1, lines without words and comments are skipped at each place, whatever stands in them.
func TestReadSkipped(t *testing.T) {
	for _, line := range skippedLines {
		wantRead(t, line+"\n"+strings.Join(rightLines, "\n"+line+"\n")+"\n"+line, rightJob)
		wantRead(t, strings.Repeat(line+"\n", 999)+strings.Join(rightLines, "\n"), rightJob)
		wantNoRead(t, strings.Repeat(line+"\n", 999)+"x", 1000, api.ErrLine)
		wantNoRead(t, "source 1\n"+strings.Repeat(line+"\n", 70000)+"source 1", 70002, api.ErrState)
	}
}

// TestReadKeywords: P19.1, a first word that is a keyword in other letters, or with something more or less; what starts with # is skipped.
func TestReadKeywords(t *testing.T) {
	for _, line := range rightLines {
		keyword, operands, _ := strings.Cut(line, " ")
		upper, n := strings.ToUpper(keyword), len(keyword)
		for _, word := range []string{upper, upper[:1] + keyword[1:], keyword[:n-1] + upper[n-1:], keyword + "x", keyword + ":", keyword + "#", keyword + "\r", keyword + "_", keyword + "1", "x" + keyword, "-" + keyword, "\xff" + keyword, keyword[1:], keyword[:n-1], keyword + keyword, "ѕ" + keyword[1:], keyword + "\x00"} {
			if slices.Contains(keywords, word) { // "walk" is "walks" without its last letter
				continue
			}
			wantNoRead(t, "source 1\n"+word+" "+operands, 2, api.ErrLine)
			wantNoRead(t, "source 1\n"+word, 2, api.ErrLine)
		}
		for _, word := range []string{"#" + keyword, "##" + keyword, "# " + keyword} {
			wantRead(t, "source 1\n"+word+" "+operands, plain(1))
			wantRead(t, " \t"+word+" x y z\nsource 1", plain(1))
		}
	}
	for _, word := range []string{"source=1", "5", "x", "'", "kind", "stop", "of", "p", "q", "budget", "fixed", "//", ";", "-", "!#", "s#"} {
		wantNoRead(t, "source 1\n"+word, 2, api.ErrLine)
		wantNoRead(t, "source 1\n"+word+" 1", 2, api.ErrLine)
		wantNoRead(t, word+" 1 2\nsource 1", 1, api.ErrLine)
	}
}

// TestReadOperands: P19.1, too few and too many operands of each keyword, whatever they are; a comment behind them is operands, too.
func TestReadOperands(t *testing.T) {
	for _, line := range rightLines {
		words := strings.Fields(line)
		for n := range words {
			if n == 0 {
				continue
			}
			for _, ahead := range []string{"", "source 1\n"} {
				number := strings.Count(ahead, "\n") + 1
				wantNoRead(t, ahead+strings.Join(words[:n], " "), number, api.ErrLine)
				wantNoRead(t, ahead+words[0]+strings.Repeat(" x", n-1), number, api.ErrLine)
				wantNoRead(t, ahead+strings.Join(words[:n], " ")+" \t\n"+strings.Join(words[n:], " "), number, api.ErrLine)
			}
		}
		for _, more := range []string{" 1", " x", " 1 2", " #", " # a note", "\t1", " 0 0 0", " 99999999999999999999", strings.Repeat(" 1", 1000)} {
			wantNoRead(t, "source 1\n"+line+more, 2, api.ErrLine)
			wantNoRead(t, "source 1\n"+words[0]+strings.Repeat(" x", len(words)-1)+more, 2, api.ErrLine)
		}
	}
}

// TestReadTwice: P19.1, a keyword other than source a second time, in the next line and much later, with the same operands, others, and ones that are wrong; with too few or too many of them it is ErrLine still.
func TestReadTwice(t *testing.T) {
	for _, line := range rightLines[:12] {
		keyword, operands, _ := strings.Cut(line, " ")
		wrong := strings.Repeat(" x", len(strings.Fields(operands)))
		for _, between := range []string{"\n", "\n\n", "\nsource 1\n# a note\n", "\n" + strings.Repeat("\n", 500)} {
			number := strings.Count(between, "\n") + 1
			for _, again := range []string{" " + operands, wrong, strings.ReplaceAll(wrong, "x", "1"), strings.ReplaceAll(wrong, "x", "0"), strings.ReplaceAll(wrong, "x", "99999999999999999999")} {
				wantNoRead(t, line+between+keyword+again, number, api.ErrState)
				wantNoRead(t, line+between+keyword+again+"\n"+line+"\nx", number, api.ErrState)
			}
			wantNoRead(t, line+between+keyword, number, api.ErrLine)
			wantNoRead(t, line+between+keyword+wrong+" 1", number, api.ErrLine)
		}
		for _, r := range table {
			if r.keyword == keyword { // also if the first line has told the default
				usual := r.line(num(r.usual))
				wantNoRead(t, usual+"\n"+usual, 2, api.ErrState)
				wantNoRead(t, "source 1\n"+usual+"\nsource 2\n"+usual, 4, api.ErrState)
			}
		}
	}
	wantNoRead(t, "walk fixed\nwalk fixed", 2, api.ErrState)
}

// TestReadPairs: P19.1 and P0.2, of two operands the first that is wrong tells the error, whatever is wrong with each.
func TestReadPairs(t *testing.T) {
	for _, keyword := range []string{"restart", "bias"} {
		below := map[string]string{"restart": "0", "bias": "65536"}[keyword] // right as either of the two, except a 0 as Of
		words := []struct {
			word string
			err  api.Errno
		}{
			{"1", api.OK}, {below, api.OK}, {"x", api.ErrForm}, {"-1", api.ErrForm}, {"01", api.ErrForm}, {"4294967296", api.ErrRange}, {"99999999999999999999", api.ErrRange},
		}
		for _, a := range words {
			for _, b := range words {
				line := keyword + " " + a.word + " " + b.word
				switch {
				case a.err != api.OK:
					wantNoRead(t, line+"\nsource 1", 1, a.err)
				case b.err != api.OK:
					wantNoRead(t, line+"\nsource 1", 1, b.err)
				default:
					wantSlowRead(t, line+"\nsource 1")
				}
			}
		}
	}
	for _, c := range []struct {
		line string
		err  api.Errno
	}{
		{"bias 0 0", api.ErrRange}, {"bias 0 x", api.ErrRange}, {"bias x 0", api.ErrForm}, {"bias 0 1", api.ErrRange}, {"bias 1 0", api.ErrRange}, {"bias 65537 x", api.ErrRange}, {"bias 65536 65537", api.ErrRange}, {"bias x 65537", api.ErrForm},
		{"restart 0 0", api.ErrRange}, {"restart x 0", api.ErrForm}, {"restart 0 x", api.ErrForm}, {"restart 9 x", api.ErrForm}, {"restart 9 0", api.ErrRange}, {"restart 4294967296 x", api.ErrRange}, {"restart 4294967295 4294967296", api.ErrRange},
	} {
		wantNoRead(t, "source 1\n"+c.line, 2, c.err)
	}
}

// TestReadShare: P19.1, Stop below Of, equal to it, and greater.
func TestReadShare(t *testing.T) {
	for _, c := range []struct {
		stop, of uint32
		ok       bool
	}{
		{0, 1, true}, {1, 1, true}, {2, 1, false}, {3, 1, false}, {0, 2, true}, {2, 2, true}, {3, 2, false}, {1, math.MaxUint32, true}, {99, 100, true}, {100, 100, true}, {101, 100, false},
		{math.MaxUint32 - 1, math.MaxUint32, true}, {math.MaxUint32, math.MaxUint32, true}, {math.MaxUint32, math.MaxUint32 - 1, false}, {math.MaxUint32, 1, false}, {1 << 31, 1<<31 - 1, false}, {1<<31 - 1, 1 << 31, true}, {10, 9, false}, {9, 10, true},
	} {
		line := "restart " + num(uint64(c.stop)) + " " + num(uint64(c.of))
		for _, walk := range []string{"", "walk fixed\n", "walk restart\n"} {
			if !c.ok {
				wantNoRead(t, walk+line+"\nsource 1", strings.Count(walk, "\n")+1, api.ErrRange)
				continue
			}
			want := plain(1)
			want.Stop, want.Of = c.stop, c.of
			if walk == "walk restart\n" {
				want.Kind = api.Restart
			}
			wantRead(t, walk+line+"\nsource 1", want)
		}
	}
}

// TestReadWrong: P19.1, a line with an error at each place, with lines of each kind ahead of it and behind: its number and its error.
func TestReadWrong(t *testing.T) {
	for _, w := range wrongLines {
		for _, ahead := range []string{"", "\n", "source 1\n", "source 1\nsource 2\nbest 4\n", "# a note\n\n \t\n", strings.Repeat("#\n", 300), sourceLines(count(256))} {
			for _, behind := range []string{"", "\n", "\nsource 3", "\nsource 3\n", "\n\n# a note\nsource 3"} {
				wantNoRead(t, ahead+w.line+behind, strings.Count(ahead, "\n")+1, w.err)
			}
		}
	}
}

// TestReadFirst: P19.1 and P0.2, of several lines with errors the first one counts.
func TestReadFirst(t *testing.T) {
	for _, w := range wrongLines {
		for _, other := range wrongLines {
			wantNoRead(t, w.line+"\n"+other.line, 1, w.err)
			wantNoRead(t, "source 1\n"+w.line+"\nsource 1\n"+other.line+"\n", 2, w.err)
			wantNoRead(t, "\n#\n\n"+w.line+"\n\n"+other.line+"\n"+w.line, 4, w.err)
		}
		wantNoRead(t, "source 1\nsource 1\n"+w.line, 2, api.ErrState)
		wantNoRead(t, sourceLines(count(257))+w.line, 257, api.ErrLong)
		wantNoRead(t, "tries 1\n"+w.line+"\ntries 1", 2, w.err)
	}
}

// TestReadLong: P19.1, a text of MaxText bytes is read, and one of a byte more is not, whatever its lines are.
func TestReadLong(t *testing.T) {
	feeds, blanks := strings.Repeat("\n", api.MaxText), strings.Repeat(" ", api.MaxText)
	for _, c := range []struct {
		text string // of MaxText bytes
		line int
		err  api.Errno
	}{
		{"source 7" + feeds[8:], 0, api.OK},
		{feeds[8:] + "source 7", 0, api.OK},
		{"source 7\n#" + strings.Repeat("x", api.MaxText-10), 0, api.OK},
		{"source" + blanks[7:] + "7", 0, api.OK},
		{feeds, 0, api.ErrArg},
		{blanks, 0, api.ErrArg},
		{"#" + blanks[1:], 0, api.ErrArg},
		{feeds[1:] + "x", api.MaxText, api.ErrLine},
		{"x" + feeds[1:], 1, api.ErrLine},
		{"source 7" + strings.Repeat("0", api.MaxText-8), 1, api.ErrRange},
		{"source 7" + strings.Repeat(" 7", api.MaxText/2-4), 1, api.ErrLine},
		{strings.Repeat("source 7source 7", api.MaxText/16), 1, api.ErrLine},
		{strings.Repeat("\x00", api.MaxText), 1, api.ErrLine},
	} {
		if len(c.text) != 1048576 {
			t.Fatalf("a text of %d bytes", len(c.text))
		}
		if c.err == api.OK {
			wantRead(t, c.text, plain(7))
		} else {
			wantNoRead(t, c.text, c.line, c.err)
		}
		for _, more := range []string{"\n", " ", "#", "x", "\x00", "\nsource 8"} {
			wantNoRead(t, c.text+more, 0, api.ErrLong)
			wantNoRead(t, more+c.text, 0, api.ErrLong)
		}
		wantNoRead(t, c.text+c.text, 0, api.ErrLong)
	}
}

// joined yields all texts of that many parts.
func joined(n int, parts []string, between string, yield func(string)) {
	if n == 0 {
		yield("")
		return
	}
	for _, part := range parts {
		if n == 1 {
			yield(part)
			continue
		}
		joined(n-1, parts, between, func(rest string) { yield(part + between + rest) })
	}
}

// TestReadEach: P19.1, each short text of lines of each kind, against the chapter.
func TestReadEach(t *testing.T) {
	lines := []string{"", "#", "source 1", "source 2", "walk second", "walk x", "restart 1 2", "restart 2 1", "pool 2", "pool 1", "bias 3", "seed x"}
	for n := range 5 {
		joined(n, lines, "\n", func(text string) { wantSlowRead(t, text) })
	}
	for n := range 7 {
		joined(n, []string{" ", "source", "bias", "\n", "1", "0"}, " ", func(text string) { wantSlowRead(t, text) })
	}
}

// TestReadSome: P19.1 and P19.2, texts without a pattern, of all keywords and operands, against the chapter.
func TestReadSome(t *testing.T) {
	r := rand.New(rand.NewSource(61))
	words := []string{"0", "1", "2", "3", "x", "01", "-1", "#", "fixed", "restart", "second", "65536", "65537", "1024", "1025", "4096", "4097", "16777216", "16777217", "4294967295", "4294967296", "18446744073709551615", "18446744073709551616"}
	for range 60000 {
		var b strings.Builder
		for range r.Intn(9) {
			keyword := keywords[r.Intn(len(keywords))]
			b.WriteString(keyword)
			n := 1
			if keyword == "restart" || keyword == "bias" {
				n = 2
			}
			if r.Intn(30) == 0 {
				n = r.Intn(4)
			}
			for range n {
				word := words[r.Intn(len(words))]
				switch {
				case keyword == "walk" && r.Intn(20) > 0:
					word = words[8+r.Intn(3)]
				case r.Intn(3) > 0:
					word = num(r.Uint64() >> (48 + r.Intn(16)))
				}
				b.WriteString(" " + word)
			}
			b.WriteString("\n")
		}
		wantSlowRead(t, b.String())
	}
}

// TestReadBehind: P19.1 and P0.4, bytes around those of the text, in its spare capacity too, are none of its lines, and nothing of them is changed.
func TestReadBehind(t *testing.T) {
	whole := []byte("source 1\n\n# a\nwalk second\nrestart 3 4\nsource 25\n")
	before := string(whole)
	for to := range len(whole) + 1 {
		for from := range to + 1 {
			got, number, err := Read(whole[from:to])
			want, wantNumber, wantErr := slowRead(before[from:to])
			if !same(got, want) || number != wantNumber || err != wantErr {
				t.Errorf("Read(%q) is %v, %d and %d, not %v, %d and %d", before[from:to], got, number, err, want, wantNumber, wantErr)
			}
			if string(whole) != before {
				t.Fatalf("Read(%q) has made %q of %q", before[from:to], whole, before)
			}
		}
	}
}

// TestReadOwn: P0.4, a job that was read stays as it is, whatever becomes of the text and of other jobs.
func TestReadOwn(t *testing.T) {
	for _, n := range []int{1, 2, 3, 4, 5, 100, 256} {
		b := []byte(sourceLines(count(n)))
		one, _, _ := Read(b)
		other, _, _ := Read(b)
		clear(one.Sources[:cap(one.Sources)])
		_ = append(one.Sources[:0], 1, 2, 3, 4, 5)
		clear(b[:cap(b)])
		again, _, _ := Read([]byte(sourceLines(count(n))))
		if !same(other, plain(count(n)...)) || !same(again, other) {
			t.Errorf("one job has changed another: %s", shown(other))
		}
	}
}

// TestReadAgain: P0.6, a text has the same job whenever it is read, also behind one with an error.
func TestReadAgain(t *testing.T) {
	texts := []string{"", "source 1\nsource 2", "walk second\nseed 5\nsource 1", "walk x", "source 3\nwalk", strings.Join(rightLines, "\n"), sourceLines(count(257)), strings.Repeat("\n", 1<<20+1)}
	for _, ahead := range texts {
		for _, text := range texts {
			Read([]byte(ahead))
			wantSlowRead(t, text)
		}
	}
}
