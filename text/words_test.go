package text

import (
	"slices"
	"strings"
	"testing"
)

// slowWords are the words of a line by the chapter: of all its parts those that are not empty, have no blank, and are not within a longer one of that kind.
func slowWords(line string) []string {
	blank := func(i int) bool { return i < 0 || i >= len(line) || line[i] == 32 || line[i] == 9 }
	var l []string
	for from := range len(line) {
		for to := from + 1; to <= len(line); to++ {
			whole := blank(from-1) && blank(to)
			for i := from; i < to; i++ {
				whole = whole && !blank(i)
			}
			if whole {
				l = append(l, line[from:to])
			}
		}
	}
	return l
}

// wantWords says what the words of a line are.
func wantWords(t *testing.T, line string, want ...string) {
	t.Helper()
	if got := Words(line); !slices.Equal(got, want) {
		t.Errorf("the words of %q are %q, not %q", line, got, want)
	}
}

// TestWordsExample: P11.1, the example of the chapter.
func TestWordsExample(t *testing.T) {
	wantWords(t, " a\tb ", "a", "b")
}

// TestWordsKnown: P11.1, blanks at each place, several and both kinds of them.
func TestWordsKnown(t *testing.T) {
	wantWords(t, "")
	for _, line := range []string{" ", "\t", "  ", "\t\t", " \t", "\t ", " \t \t  \t\t"} {
		wantWords(t, line)
	}
	for _, front := range []string{"", " ", "\t", "   ", "\t\t", " \t "} {
		for _, between := range []string{" ", "\t", "  ", "\t\t\t", "\t \t"} {
			for _, end := range []string{"", " ", "\t", "    ", "\t\t", "\t \t"} {
				wantWords(t, front+"word"+end, "word")
				wantWords(t, front+"1"+between+"22"+end, "1", "22")
				wantWords(t, front+"edge"+between+"#"+between+"-5"+end, "edge", "#", "-5")
				wantWords(t, front+"x"+strings.Repeat(between+"x", 99)+end, slices.Repeat([]string{"x"}, 100)...)
			}
		}
	}
}

// TestWordsOtherSpace: P11.1, what is no byte 32 or 9 is no blank, as much as it may look like one.
func TestWordsOtherSpace(t *testing.T) {
	others := []string{
		"\n", "\r", "\r\n", "\v", "\f", "\x00", "\x1f", "\x7f", "\x80", "\x85", "\xa0", "\xff", "\x89", "\xa9",
		"\u00a0", "\u0085", "\u2003", "\u2028", "\u3000", "\ufeff", "\ufffd", "\xc0\xa0", "\xe0\x80\x89", "\xe2\x80", "é", "日本",
	}
	for _, s := range others {
		wantWords(t, s, s)
		wantWords(t, "a"+s+"b", "a"+s+"b")
		wantWords(t, s+"a b"+s, s+"a", "b"+s)
		wantWords(t, " "+s+"\t"+s+s+" ", s, s+s)
	}
}

// TestWordsBytes: P11.1, each byte, by itself and around words: two of them alone are blanks.
func TestWordsBytes(t *testing.T) {
	for x := range 256 {
		s := string([]byte{byte(x)})
		if x == 9 || x == 32 {
			wantWords(t, s)
			wantWords(t, "a"+s+"b", "a", "b")
			wantWords(t, s+"a"+s+s+"b"+s, "a", "b")
			continue
		}
		wantWords(t, s, s)
		wantWords(t, "a"+s+"b", "a"+s+"b")
		wantWords(t, s+" "+s+s+"\t"+s, s, s+s, s)
	}
}

// TestWordsEach: P11.1, each short line of blanks and other bytes, against the chapter.
func TestWordsEach(t *testing.T) {
	for line := range texts(6, " ", "\t", "a", "\n", "\xe2") {
		wantWords(t, line, slowWords(line)...)
	}
}

// TestWordsMany: P11.1, there may be many words, and a word may be long.
func TestWordsMany(t *testing.T) {
	for _, n := range []int{31, 32, 33, 1000, 1 << 16} {
		word := strings.Repeat("w", n)
		wantWords(t, "\t"+word+" "+word, word, word)
		l := slices.Repeat([]string{"ab"}, n)
		wantWords(t, strings.Join(l, " "), l...)
		wantWords(t, " "+strings.Join(l, "\t\t")+"\t", l...)
		wantWords(t, strings.Repeat(" ", n))
	}
}

// TestWordsOwn: P0.4, what a call returned is the caller's own: nothing that is done to it is seen in another result.
func TestWordsOwn(t *testing.T) {
	line := "one two\tthree"
	for _, now := range []string{line, "", " "} {
		one, other := Words(now), Words(now)
		want := slices.Clone(one)
		clear(one[:cap(one)])
		_ = append(one[:0], "x", "y")
		if !slices.Equal(other, want) {
			t.Errorf("one result has changed another: %q", other)
		}
		wantWords(t, now, want...)
	}
	if line != "one two\tthree" {
		t.Errorf("the line has become %q", line)
	}
}
