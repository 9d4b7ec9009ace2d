package edge

import (
	"iter"
	"math/big"
	"palmer/api"
	"slices"
	"strings"
	"testing"
)

// blankKinds are what may be between words, and around them.
var blankKinds = []string{" ", "\t", "   ", "\t\t", " \t", "\t \t  "}

// noNumbers are words that are no numbers, by no reading of them. None starts with a #.
var noNumbers = []string{
	"x", "1x", "x1", "1x1", "one", "-", "+", "-1", "+1", "-0", "+0", "1-", "1-1",
	"00", "01", "007", "00000000000000000001", "04294967295",
	"0x1", "1e3", "1.0", ".5", "1.", "1,000", "1_000", "1#", "1#2", "1/", "1:", "/", ":",
	"1\r", "\r", "\r1", "1\n", "\n", "\n1", "1\n2", "1\r\n", "1\v", "\f1", "1\x00", "\x00",
	"\x80", "1\x80", "\xff1", "\xb1", "1\xb2", "1\xa0", "\u00a01", "1\u00a02", "\u30001", "\u0661", "\uff11", "1\u00b2", "\ufeff1", "\uff03",
}

// skippedLines are lines that have no words, or a # at the front of the first one.
var skippedLines = []string{
	"", " ", "\t", "    ", "\t\t\t", " \t \t",
	"#", "##", "#a", "#1", "#1 2", "#1 2 3", "#1 2 3 4", "# ", "#\t", "# a note", "# 1", "# 1 2", "# 1 2 3", "# 1 2 3 4 5", "# x -1 00 4294967296", "#x y", "#4294967296 x",
	" #", "\t#", "  \t #", " # 1 2", "\t#1 2 3", " \t # a note # and more ", "#\r", "# 1 2\r", "#\n", "#\n1 2", "# a\n3 4 5", "#\x00", "#\xff\x80", "#\u00e9",
}

// slowOne is the edge of a line, by the chapter, in unbounded integers.
func slowOne(line string) (api.Edge, bool, api.Errno) {
	var words []string
	for part := range strings.SplitSeq(strings.ReplaceAll(line, "\t", " "), " ") {
		if part != "" {
			words = append(words, part)
		}
	}
	if len(words) == 0 || words[0][0] == '#' {
		return api.Edge{}, false, api.OK
	}
	if len(words) == 1 || len(words) > 3 {
		return api.Edge{}, false, api.ErrLine
	}
	n := []*big.Int{nil, nil, big.NewInt(1)}
	for i, word := range words {
		x, ok := new(big.Int).SetString(word, 10)
		if !ok || x.Sign() < 0 || x.String() != word {
			return api.Edge{}, false, api.ErrForm
		}
		if i < 2 && x.BitLen() > 32 || i == 2 && (x.BitLen() > 31 || x.Sign() == 0) {
			return api.Edge{}, false, api.ErrRange
		}
		n[i] = x
	}
	return api.Edge{From: uint32(n[0].Uint64()), To: uint32(n[1].Uint64()), Weight: uint32(n[2].Uint64())}, true, api.OK
}

// wantEdge says which edge a line has.
func wantEdge(t *testing.T, line string, from, to, weight uint32) {
	t.Helper()
	want := api.Edge{From: from, To: to, Weight: weight}
	if e, ok, err := One(line); e != want || !ok || err != api.OK {
		t.Errorf("One(%q) is %v, %v and %d, not %v", line, e, ok, err, want)
	}
}

// wantNoEdge: P12.1 and P0.2, a line has no edge, and beside the error, or OK if the line is skipped, are the zero value and false.
func wantNoEdge(t *testing.T, line string, want api.Errno) {
	t.Helper()
	if e, ok, err := One(line); e != (api.Edge{}) || ok || err != want {
		t.Errorf("One(%q) is %v, %v and %d, not nothing and %d", line, e, ok, err, want)
	}
}

// wantSlowOne says that a line is what the chapter says.
func wantSlowOne(t *testing.T, line string) {
	t.Helper()
	want, wantOk, wantErr := slowOne(line)
	if e, ok, err := One(line); e != want || ok != wantOk || err != wantErr {
		t.Errorf("One(%q) is %v, %v and %d, not %v, %v and %d", line, e, ok, err, want, wantOk, wantErr)
	}
}

// joined yields all lists of that many pieces, each of them joined.
func joined(pieces int, alphabet []string, between string) iter.Seq[string] {
	return func(yield func(string) bool) {
		at := make([]int, pieces)
		for {
			l := make([]string, pieces)
			for i, k := range at {
				l[i] = alphabet[k]
			}
			if !yield(strings.Join(l, between)) {
				return
			}
			i := 0
			for i < pieces && at[i] == len(alphabet)-1 {
				at[i] = 0
				i++
			}
			if i == pieces {
				return
			}
			at[i]++
		}
	}
}

// TestOneExample: P12.1, the lines of the example of the chapter.
func TestOneExample(t *testing.T) {
	wantEdge(t, "1 2", 1, 2, 1)
	wantNoEdge(t, "# a note", api.OK)
	wantEdge(t, "3 4 5", 3, 4, 5)
}

// TestOneKnown: P12.1, ordinary lines of two words and of three, also from a vertex to itself.
func TestOneKnown(t *testing.T) {
	wantEdge(t, "2 1", 2, 1, 1)
	wantEdge(t, "7 7", 7, 7, 1)
	wantEdge(t, "0 0", 0, 0, 1)
	wantEdge(t, "0 0 1", 0, 0, 1)
	wantEdge(t, "0 9 8", 0, 9, 8)
	wantEdge(t, "9 0 8", 9, 0, 8)
	wantEdge(t, "5 5 5", 5, 5, 5)
	wantEdge(t, "1 2 1", 1, 2, 1)
	wantEdge(t, "1 2 2", 1, 2, 2)
	wantEdge(t, "10 100 1000", 10, 100, 1000)
	wantEdge(t, "123456789 987654321 1122334455", 123456789, 987654321, 1122334455)
}

// TestOneSkipped: P12.1, lines without words, and those whose first word starts with a #, whatever is behind it.
func TestOneSkipped(t *testing.T) {
	for _, line := range skippedLines {
		wantNoEdge(t, line, api.OK)
	}
	for n := range 50 {
		for _, blanks := range []string{strings.Repeat(" ", n), strings.Repeat("\t", n), strings.Repeat("\t ", n)} {
			wantNoEdge(t, blanks, api.OK)
			wantNoEdge(t, blanks+"#", api.OK)
			wantNoEdge(t, blanks+"#"+blanks+"1"+blanks+"2", api.OK)
		}
	}
	for x := range 256 {
		s := string([]byte{byte(x)})
		wantNoEdge(t, "#"+s, api.OK)
		wantNoEdge(t, " #"+s+"1 2 3", api.OK)
		wantNoEdge(t, "# "+s+" "+s, api.OK)
	}
}

// TestOneNotSkipped: P12.1, a # elsewhere skips nothing: behind another byte of the first word, and in the second word or the third.
func TestOneNotSkipped(t *testing.T) {
	for _, line := range []string{
		"1 #", "1 #2", "1 # 2", "1 # 3", "1 #2 3", "1 2 #", "1 2 #3", "1 2 ##", "1 # #", "0 # 0",
		"1# 2", "1# 2 3", "1#2 3", "x# 2", "-# 2", "1\t#", "\t1\t2\t#",
		"\r# 2", "\n# 2", "\x00# 2", "\u00a0# 2", "\u3000# 2 3", "\uff03 2", "\xa3 2",
	} {
		wantNoEdge(t, line, api.ErrForm)
	}
	for _, line := range []string{"1#", "x#", "1 2 # 3", "1 2 3 #", "1 2 3 #4", "1 2 3 # a note", "1 # a note", "\r#", "\n#", "\x00#", "\u00a0#1", "\uff03", "\xa3"} {
		wantNoEdge(t, line, api.ErrLine)
	}
	wantNoEdge(t, "4294967296 #", api.ErrRange)
	wantNoEdge(t, "1 2 0#", api.ErrForm)
}

// TestOneFewOrMany: P12.1, one word and more than three are no edge: that comes ahead of what is wrong with a word.
func TestOneFewOrMany(t *testing.T) {
	words := append([]string{"0", "1", "2", "4294967295", "4294967296", "2147483648", "99999999999999999999999"}, noNumbers...)
	for _, word := range words {
		wantNoEdge(t, word, api.ErrLine)
		wantNoEdge(t, "\t"+word+" ", api.ErrLine)
		for _, line := range []string{
			word + " 2 3 4", "1 " + word + " 3 4", "1 2 " + word + " 4", "1 2 3 " + word,
			word + " 2 3 4 5", "1 2 3 4 " + word, "1 2 0 " + word, " 1\t2\t3\t" + word + "\t",
		} {
			wantNoEdge(t, line, api.ErrLine)
		}
		for _, n := range []int{4, 5, 6, 7, 8, 100, 255, 256, 257, 258, 259} {
			wantNoEdge(t, strings.Repeat(word+" ", n), api.ErrLine)
		}
	}
	wantNoEdge(t, "x y z w", api.ErrLine)
	wantNoEdge(t, "-1 4294967296 0 #", api.ErrLine)
	wantNoEdge(t, strings.Repeat("1 ", 1<<16), api.ErrLine)
}

// TestOneBlanks: P12.1, blanks of both kinds, one and several, at each place.
func TestOneBlanks(t *testing.T) {
	around := append([]string{""}, blankKinds...)
	for _, front := range around {
		for _, end := range around {
			for _, between := range blankKinds {
				wantNoEdge(t, front+"12"+end, api.ErrLine)
				wantEdge(t, front+"12"+between+"3"+end, 12, 3, 1)
				wantNoEdge(t, front+"12"+between+"x"+end, api.ErrForm)
				wantNoEdge(t, front+"#12"+between+"3"+end, api.OK)
				for _, second := range blankKinds {
					wantEdge(t, front+"12"+between+"3"+second+"45"+end, 12, 3, 45)
					wantNoEdge(t, front+"12"+between+"3"+second+"0"+end, api.ErrRange)
					wantNoEdge(t, front+"12"+between+"3"+second+"4"+between+"5"+end, api.ErrLine)
				}
			}
		}
	}
	wide := strings.Repeat(" \t", 1000)
	wantEdge(t, wide+"1"+wide+"2"+wide+"3"+wide, 1, 2, 3)
}

// TestOneNoNumber: P12.1, a word that is no number, as From, as To and as Weight.
func TestOneNoNumber(t *testing.T) {
	for _, word := range noNumbers {
		for _, line := range []string{word + " 2", "1 " + word, word + " 2 3", "1 " + word + " 3", "1 2 " + word, word + " " + word, word + " " + word + " " + word} {
			wantNoEdge(t, line, api.ErrForm)
		}
	}
}

// TestOneBytes: P12.1, each byte within each word, at the front of it, and at its end: a line feed and a carriage return are like any other.
func TestOneBytes(t *testing.T) {
	for x := range 256 {
		s := string([]byte{byte(x)})
		for _, word := range []string{s, "1" + s, s + "1", "1" + s + "1", s + s} {
			for _, line := range []string{word + " 2", "1 " + word, word + " 2 3", "1 " + word + " 3", "1 2 " + word} {
				wantSlowOne(t, line)
			}
		}
		if x == ' ' || x == '\t' || x >= '0' && x <= '9' {
			continue
		}
		wantNoEdge(t, "1"+s+" 2", api.ErrForm)
		wantNoEdge(t, "1 2"+s, api.ErrForm)
		wantNoEdge(t, "1 2 3"+s, api.ErrForm)
		wantNoEdge(t, "1 2 "+s, api.ErrForm)
		wantNoEdge(t, "1"+s+"2", api.ErrLine)
	}
	wantNoEdge(t, "1 2\n", api.ErrForm)
	wantNoEdge(t, "1 2\n3 4", api.ErrForm)
	wantNoEdge(t, "1\n2", api.ErrLine)
	wantNoEdge(t, "1 2 3\r", api.ErrForm)
	wantNoEdge(t, "\n", api.ErrLine)
	wantNoEdge(t, "\r", api.ErrLine)
}

// TestOneVertices: P12.1, From and To are numbers from 0 to 2^32 - 1.
func TestOneVertices(t *testing.T) {
	for _, k := range []struct {
		word string
		n    uint32
	}{
		{"0", 0}, {"1", 1}, {"2147483647", 1<<31 - 1}, {"2147483648", 1 << 31}, {"4294967294", 1<<32 - 2}, {"4294967295", 1<<32 - 1},
	} {
		wantEdge(t, k.word+" 7", k.n, 7, 1)
		wantEdge(t, "7 "+k.word, 7, k.n, 1)
		wantEdge(t, k.word+" 7 9", k.n, 7, 9)
		wantEdge(t, "7 "+k.word+" 9", 7, k.n, 9)
		wantEdge(t, k.word+" "+k.word, k.n, k.n, 1)
		wantEdge(t, k.word+" "+k.word+" 2147483647", k.n, k.n, api.MaxWeight)
	}
	for _, word := range []string{"4294967296", "4294967297", "6442450944", "8589934592", "18446744073709551615", "18446744073709551616", "18446744073709551617", "1" + strings.Repeat("0", 500)} {
		for _, line := range []string{word + " 7", "7 " + word, word + " 7 9", "7 " + word + " 9", word + " " + word, word + " " + word + " " + word} {
			wantNoEdge(t, line, api.ErrRange)
		}
	}
}

// TestOneWeights: P12.1, a Weight is a number from 1 to MaxWeight.
func TestOneWeights(t *testing.T) {
	wantNoEdge(t, "1 2 0", api.ErrRange)
	wantNoEdge(t, "0 0 0", api.ErrRange)
	wantEdge(t, "3 4 1", 3, 4, 1)
	wantEdge(t, "3 4 2", 3, 4, 2)
	wantEdge(t, "3 4 2147483646", 3, 4, 2147483646)
	wantEdge(t, "3 4 2147483647", 3, 4, 2147483647)
	for _, word := range []string{"2147483648", "2147483649", "4294967295", "4294967296", "4294967297", "8589934593", "18446744073709551615", "18446744073709551616", "18446744073709551617", "1" + strings.Repeat("0", 500)} {
		wantNoEdge(t, "3 4 "+word, api.ErrRange)
		wantNoEdge(t, "\t0  0\t"+word+" ", api.ErrRange)
	}
}

// TestOneFirst: P12.1 and P0.2, of several words with errors, the first one's error is returned.
func TestOneFirst(t *testing.T) {
	for _, form := range noNumbers {
		for _, big := range []string{"4294967296", "99999999999999999999"} {
			wantNoEdge(t, form+" "+big, api.ErrForm)
			wantNoEdge(t, big+" "+form, api.ErrRange)
			wantNoEdge(t, form+" "+big+" "+big, api.ErrForm)
			wantNoEdge(t, big+" "+form+" "+form, api.ErrRange)
			wantNoEdge(t, form+" 2 "+big, api.ErrForm)
			wantNoEdge(t, big+" 2 "+form, api.ErrRange)
			wantNoEdge(t, "1 "+form+" "+big, api.ErrForm)
			wantNoEdge(t, "1 "+big+" "+form, api.ErrRange)
			wantNoEdge(t, form+" "+big+" 0", api.ErrForm)
		}
		wantNoEdge(t, form+" 2 0", api.ErrForm)
		wantNoEdge(t, "1 "+form+" 0", api.ErrForm)
	}
}

// TestOneEachWords: P12.1, each line of up to five words of each kind, against the chapter.
func TestOneEachWords(t *testing.T) {
	words := []string{"0", "1", "2147483647", "2147483648", "4294967295", "4294967296", "00", "-1", "x", "#", "1#"}
	for n := range 6 {
		for line := range joined(n, words, " ") {
			wantSlowOne(t, line)
		}
	}
}

// TestOneEachBytes: P12.1, each short line of blanks and other bytes, against the chapter.
func TestOneEachBytes(t *testing.T) {
	for n := range 7 {
		for line := range joined(n, []string{" ", "\t", "0", "7", "#", "\n", "\xe2"}, "") {
			wantSlowOne(t, line)
		}
	}
}

// TestOneAgain: P0.6, a line's edge does not depend on the lines ahead of it: no number of theirs is left.
func TestOneAgain(t *testing.T) {
	lines := append([]string{"1 2", "3 4 5", "1 2 0", "x", "4294967295 4294967295 2147483647", "7 8 x", "9 x 9", "0 0"}, skippedLines...)
	for _, ahead := range lines {
		for _, line := range lines {
			One(ahead)
			wantSlowOne(t, line)
		}
	}
	backward := slices.Clone(lines)
	slices.Reverse(backward)
	for _, line := range backward {
		wantSlowOne(t, line)
	}
}
