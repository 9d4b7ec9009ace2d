package text

import (
	"bytes"
	"iter"
	"math"
	"slices"
	"strconv"
	"strings"
	"testing"
)

// entry is what an iterator of lines gives at a time.
type entry struct {
	number int
	line   string
}

// String shows bytes that could not be seen otherwise.
func (e entry) String() string {
	return strconv.Itoa(e.number) + ": " + strconv.Quote(e.line)
}

// lineCases are texts, and their lines by the chapter.
var lineCases = []struct {
	text string
	want []string
}{
	{"", nil},
	{"\n", []string{""}},
	{"\n\n", []string{"", ""}},
	{"\n\n\n\n", []string{"", "", "", ""}},
	{"a", []string{"a"}},
	{"a\n", []string{"a"}},
	{"\na", []string{"", "a"}},
	{"a\nb", []string{"a", "b"}},
	{"a\nb\n", []string{"a", "b"}},
	{"a\n\n\nb", []string{"a", "", "", "b"}},
	{"a\n\n\nb\n\n", []string{"a", "", "", "b", ""}},
	{"one\n\ntwo", []string{"one", "", "two"}},
	{"one two\nthree", []string{"one two", "three"}},
	{" \n", []string{" "}},
	{"\t", []string{"\t"}},
	{"\r", []string{"\r"}},
	{"a\r\nb\r\n", []string{"a\r", "b\r"}},
	{"a\rb\n\r\r", []string{"a\rb", "\r\r"}},
	{"\r\n\r\n", []string{"\r", "\r"}},
	{"\x00", []string{"\x00"}},
	{"\x00\n\x00\x00\n", []string{"\x00", "\x00\x00"}},
	{"a\x00b\nc", []string{"a\x00b", "c"}},
	{"\x80\xff\n\xc3\n\xa9", []string{"\x80\xff", "\xc3", "\xa9"}},
	{"\x8a\n\xc2\x85\n\xe2\x80\xa8\n", []string{"\x8a", "\xc2\x85", "\xe2\x80\xa8"}}, // a byte that ends as a line feed does, and other ends of lines
	{"\v\f\x1c\n\x1d\x1e", []string{"\v\f\x1c", "\x1d\x1e"}},
	{"é\nαβ", []string{"é", "αβ"}},
	{"\\n\nn", []string{"\\n", "n"}},
}

// slowLines are the lines of a text, by the chapter: what is before each line feed, and what is left, if anything is.
func slowLines(text string) []entry {
	var l []entry
	for {
		line, rest, found := strings.Cut(text, "\n")
		if !found && line == "" {
			return l
		}
		l = append(l, entry{len(l) + 1, line})
		text = rest
		if !found {
			return l
		}
	}
}

// entries are all that an iterator gives, or no more than most.
func entries(s iter.Seq2[int, string], most int) []entry {
	var l []entry
	for number, line := range s {
		l = append(l, entry{number, line})
		if len(l) == most {
			break
		}
	}
	return l
}

// numbered are lines with their numbers.
func numbered(lines ...string) []entry {
	var l []entry
	for i, line := range lines {
		l = append(l, entry{i + 1, line})
	}
	return l
}

// wantLines says what an iterator gives, all of it.
func wantLines(t *testing.T, what string, s iter.Seq2[int, string], want []entry) {
	t.Helper()
	if got := entries(s, math.MaxInt); !slices.Equal(got, want) {
		t.Errorf("%q has the lines %v, not %v", what, got, want)
	}
}

// texts yields all texts of up to that many pieces of an alphabet, beginning with the empty one.
func texts(pieces int, alphabet ...string) iter.Seq[string] {
	return func(yield func(string) bool) {
		l := []string{""}
		for range pieces + 1 {
			var next []string
			for _, s := range l {
				if !yield(s) {
					return
				}
				for _, piece := range alphabet {
					next = append(next, s+piece)
				}
			}
			l = next
		}
	}
}

// TestLinesKnown: P11.1, the lines of texts of each kind, with their numbers from 1.
func TestLinesKnown(t *testing.T) {
	for _, c := range lineCases {
		wantLines(t, c.text, Lines([]byte(c.text)), numbered(c.want...))
	}
}

// TestLinesNothing: P11.1 and P0.5, without bytes there are no lines, whatever they are absent from.
func TestLinesNothing(t *testing.T) {
	for _, b := range [][]byte{nil, {}, []byte("a\nb\n")[:0], make([]byte, 0, 9)} {
		s := Lines(b)
		if s == nil {
			t.Fatal("no iterator")
		}
		for number, line := range s {
			t.Errorf("line %d of nothing is %q", number, line)
		}
	}
}

// TestLinesSpare: P11.1, bytes behind those of the text, in its spare capacity, are none of its lines.
func TestLinesSpare(t *testing.T) {
	whole := []byte("one\ntwo\nthree\n")
	for n := range len(whole) + 1 {
		for from := range n + 1 {
			wantLines(t, string(whole[from:n]), Lines(whole[from:n]), slowLines(string(whole[from:n])))
		}
	}
}

// TestLinesEach: P11.1, each short text of line feeds and other bytes, against the chapter.
func TestLinesEach(t *testing.T) {
	for text := range texts(7, "\n", "a", "\r", "\xff") {
		wantLines(t, text, Lines([]byte(text)), slowLines(text))
	}
}

// TestLinesBytes: P11.1, each byte but the line feed is one of a line, at its front, within it, at its end and by itself.
func TestLinesBytes(t *testing.T) {
	for x := range 256 {
		if x == '\n' {
			continue
		}
		s := string([]byte{byte(x)})
		want := numbered(s, s+"a", "a"+s+"a", "a"+s, s+s, "", s)
		for _, end := range []string{"", "\n"} {
			text := s + "\n" + s + "a\na" + s + "a\na" + s + "\n" + s + s + "\n\n" + s + end
			wantLines(t, text, Lines([]byte(text)), want)
		}
	}
}

// TestLinesMany: P11.1, there may be many lines, empty ones and others, and a line may be long.
func TestLinesMany(t *testing.T) {
	for _, line := range []string{"", "a", "some words 12 34", strings.Repeat("x", 1000)} {
		for _, n := range []int{1, 2, 127, 128, 255, 256, 257, 3000} {
			text := strings.Repeat(line+"\n", n)
			wantLines(t, line, Lines([]byte(text)), numbered(slices.Repeat([]string{line}, n)...))
			if line != "" {
				wantLines(t, line, Lines([]byte(text[:len(text)-1])), numbered(slices.Repeat([]string{line}, n)...))
			}
		}
	}
	long := strings.Repeat("a long line, ", 1<<17)
	for _, text := range []string{long, long + "\n", "\n" + long, long + "\n\n" + long} {
		if got := entries(Lines([]byte(text)), math.MaxInt); !slices.Equal(got, slowLines(text)) {
			t.Errorf("%d bytes have %d lines", len(text), len(got))
		}
	}
	if got := entries(Lines(bytes.Repeat([]byte("\n"), 1<<18)), math.MaxInt); !slices.Equal(got, numbered(make([]string, 1<<18)...)) {
		t.Errorf("%d line feeds have %d lines", 1<<18, len(got))
	}
}

// TestLinesLeft: P11.1, a loop may end behind any line, and the iterator gives nothing behind that.
func TestLinesLeft(t *testing.T) {
	for _, c := range lineCases {
		for most := 1; most <= len(c.want)+1; most++ {
			wanted := c.want[:min(most, len(c.want))]
			if got := entries(Lines([]byte(c.text)), most); !slices.Equal(got, numbered(wanted...)) {
				t.Errorf("up to line %d of %q are %v, not %q", most, c.text, got, wanted)
			}
			calls := 0
			Lines([]byte(c.text))(func(int, string) bool {
				calls++
				return calls < most
			})
			if calls != len(wanted) {
				t.Errorf("%q gives %d lines to whoever wants %d", c.text, calls, most)
			}
		}
	}
}

// TestLinesAgain: P11.1, an iterator that is ranged over again starts from the front, also when a loop ended early.
func TestLinesAgain(t *testing.T) {
	for _, c := range lineCases {
		s := Lines([]byte(c.text))
		for most := len(c.want) + 1; most > 0; most-- {
			entries(s, most)
			wantLines(t, c.text, s, numbered(c.want...))
		}
		wantLines(t, c.text, s, numbered(c.want...))
	}
}

// TestLinesNested: P11.1, each loop over an iterator has its own place, within another one too.
func TestLinesNested(t *testing.T) {
	s := Lines([]byte("a\n\nb\nc"))
	want := numbered("a", "", "b", "c")
	var outer []entry
	for number, line := range s {
		outer = append(outer, entry{number, line})
		wantLines(t, "a text within a loop", s, want)
		entries(s, number)
	}
	if !slices.Equal(outer, want) {
		t.Errorf("a loop around others gives %v", outer)
	}
	one, stopOne := iter.Pull2(s)
	defer stopOne()
	other, stopOther := iter.Pull2(s)
	defer stopOther()
	for _, w := range want {
		for _, next := range []func() (int, string, bool){one, other} {
			if number, line, ok := next(); !ok || number != w.number || line != w.line {
				t.Errorf("in turn, line %d is %d, %q, not %q", w.number, number, line, w.line)
			}
		}
	}
}

// TestLinesChangedBefore: P11.1, b counts as it is when it is ranged over, not as it was when Lines was called.
func TestLinesChangedBefore(t *testing.T) {
	b := []byte("a\nb\nc\n")
	s := Lines(b)
	for _, now := range []string{"x\ny\nz\n", "abcdef", "\n\n\n\n\n\n", "ab\ncd\n", "\nabcd\n", "abcde\n", "a\nb\ncd", "\x00\r \t\xffa"} {
		copy(b, now)
		wantLines(t, now, s, slowLines(now))
		entries(s, 1)
		wantLines(t, now, s, slowLines(now))
	}
}

// TestLinesLonger: P11.1 and P0.4, a text that has become longer is another one, also within the capacity of the first.
func TestLinesLonger(t *testing.T) {
	b := append(make([]byte, 0, 100), "a\nb"...)
	s := Lines(b)
	_ = append(b, "c\nd\n"...)
	wantLines(t, "a text that another one continues", s, numbered("a", "b"))
	b = b[:1]
	wantLines(t, "a text whose variable has changed", s, numbered("a", "b"))
}

// TestLinesChangedBetween: P11.1, between two lines b may change, and the lines that follow are those of b as it then is.
func TestLinesChangedBetween(t *testing.T) {
	cases := []struct {
		was    string
		behind int // the number of the line behind which b changes
		now    string
		want   []string
	}{
		{"a\nb\nc\n", 1, "a\nB\nC\n", []string{"a", "B", "C"}},
		{"a\nb\nc\n", 2, "a\nb\nC\n", []string{"a", "b", "C"}},
		{"a\nb\nc\n", 1, "a\nbxcx", []string{"a", "bxcx"}},           // line feeds go
		{"a\nb\nc\n", 2, "a\nb\ncx", []string{"a", "b", "cx"}},       // and the last one
		{"a\nbcde", 1, "a\nb\nd\n", []string{"a", "b", "d"}},         // and come
		{"a\nbcde", 1, "a\nb\nde", []string{"a", "b", "de"}},         // in the last line too
		{"a\nbcde", 1, "a\nbcd\n", []string{"a", "bcd"}},             // at its end
		{"a\nbcde", 1, "a\n\n\n\n\n", []string{"a", "", "", "", ""}}, // and instead of it
		{"a\nbc\n", 1, "a\n\nb\n", []string{"a", "", "b"}},           // before the line feed that was there
		{"ab\nc\n", 1, "axyc\n", []string{"ab", "c"}},                // what is past is not looked at again: the line feed
		{"ab\nc\n", 1, "\n\n\nc\n", []string{"ab", "c"}},             // and the bytes before it
		{"a\nb\nc", 2, "\n\n\n\n\n", []string{"a", "b", ""}},
		{"a\nb\nc", 3, "\n\n\n\n\n", []string{"a", "b", "c"}}, // behind the last line there is none, whatever it was
		{"a\nb\nc\n", 3, "\n\n\n\nxy", []string{"a", "b", "c"}},
		{"\n\n\n\n", 2, "\n\nab", []string{"", "", "ab"}},
		{"abcd", 1, "a\nb\n", []string{"abcd"}},
	}
	for _, c := range cases {
		b := []byte(c.was)
		var got []entry
		for number, line := range Lines(b) {
			got = append(got, entry{number, line})
			if number == c.behind {
				copy(b, c.now)
			}
		}
		if !slices.Equal(got, numbered(c.want...)) {
			t.Errorf("%q that is %q behind line %d has the lines %v, not %q", c.was, c.now, c.behind, got, c.want)
		}
		if string(b) != c.now {
			t.Errorf("%q has become %q", c.now, b)
		}
	}
}

// TestLinesChangedEach: P11.1, any text that becomes any other one behind any line: what is left to come are the lines of its rest.
func TestLinesChangedEach(t *testing.T) {
	for was := range texts(4, "\n", "a") {
		for now := range texts(4, "\n", "a", "b") {
			if len(now) != len(was) {
				continue
			}
			for behind := range slowLines(was) {
				b := []byte(was)
				var got []string
				past := 0
				for number, line := range Lines(b) {
					got = append(got, line)
					if number == behind+1 {
						past = min(len(strings.Join(got, "\n"))+1, len(b))
						copy(b, now)
					}
				}
				want := slowLines(was)[:behind+1]
				for _, e := range slowLines(now[past:]) {
					want = append(want, entry{len(want) + 1, e.line})
				}
				if !slices.Equal(numbered(got...), want) {
					t.Errorf("%q that is %q behind line %d has the lines %q, not %v", was, now, behind+1, got, want)
				}
			}
		}
	}
}

// TestLinesOwn: P0.4, a line stays as it was given, whatever becomes of the text and of other lines.
func TestLinesOwn(t *testing.T) {
	whole := []byte("front one\n\ntwo and more\nthree back")
	b := whole[6 : len(whole)-5]
	before := bytes.Clone(whole)
	got := entries(Lines(b), math.MaxInt)
	if !bytes.Equal(whole, before) {
		t.Errorf("%q has become %q", before, whole)
	}
	clear(whole)
	if want := numbered("one", "", "two and more", "three"); !slices.Equal(got, want) {
		t.Errorf("the lines have become %v", got)
	}
	b = []byte("a line\nanother\nlast")
	for _, line := range Lines(b) {
		want := strings.Clone(line)
		clear(b[:len(line)])
		if line != want {
			t.Errorf("%q has become %q", want, line)
		}
		b = b[min(len(line)+1, len(b)):]
	}
}

// TestLinesJoined: P11.2, lines without line feeds, each followed by one, are the lines of what they make together.
func TestLinesJoined(t *testing.T) {
	kinds := []string{"", "a", " ", "\r", "one two", "\x00", "\xff\x80", "12", "#"}
	var each func(left int, l []string)
	each = func(left int, l []string) {
		var b []byte
		for _, line := range l {
			b = append(append(b, line...), '\n')
		}
		wantLines(t, string(b), Lines(b), numbered(l...))
		if left == 0 {
			return
		}
		for _, k := range kinds {
			each(left-1, append(l[:len(l):len(l)], k))
		}
	}
	each(4, nil)
}
