package runs

import (
	"palmer/api"
	"slices"
	"strings"
	"testing"
)

// TestForget: P13.1, the memory is empty then, and the runs remain.
func TestForget(t *testing.T) {
	s := opened(t, newDisk(t, 60))
	x := sorter(t, s, "r", 1, 3)
	x.Forget()
	wantCounts(t, x, 0, 0)
	put(t, x, "a", "b")
	x.Forget()
	wantCounts(t, x, 0, 0)
	wantRows(t, x)
	wantErrno(t, "Flush", x.Flush(), api.OK)
	wantFiles(t, s, nil)
	put(t, x, "f", "e", "d", "c")
	for range 2 {
		x.Forget()
		wantCounts(t, x, 0, 1)
		wantRows(t, x, "d", "e", "f")
		wantFiles(t, s, map[string]string{"r0": slowRun("d", "e", "f")})
	}
	put(t, x, "b", "a", "c") // the room is there again
	wantCounts(t, x, 3, 1)
	wantRows(t, x, "a", "b", "c", "d", "e", "f")
}

// TestClear: P13.1, the memory is empty then, and the files of the runs are removed, others not; the next run has the number 0.
func TestClear(t *testing.T) {
	for count := range 13 {
		others := map[string]string{"r": "x", "r00": "x", "rr0": "x", "q0": "x", "r14": slowRun("a")}
		s := filled(t, others)
		x := sorter(t, s, "r", 1, 1)
		put(t, x, strings.Split("abcdefghijklm", "")[:count+1]...)
		wantCounts(t, x, 1, count)
		for range 2 {
			wantErrno(t, "Clear", x.Clear(), api.OK)
			wantCounts(t, x, 0, 0)
			wantRows(t, x)
			wantFiles(t, s, others)
		}
		flush(t, x, "z")
		wantCounts(t, x, 0, 1)
		wantRows(t, x, "z")
		others["r0"] = slowRun("z")
		wantFiles(t, s, others)
		wantErrno(t, "Commit", s.Commit(), api.OK)
		wantErrno(t, "Clear", x.Clear(), api.OK)
		delete(others, "r0")
		wantFiles(t, s, others)
	}
}

// TestClearBroken: P13.1, files are removed whatever they contain.
func TestClearBroken(t *testing.T) {
	for _, b := range broken() {
		s := filled(t, map[string]string{"r0": slowRun("aa"), "r1": b, "r2": "x"})
		x := sorter(t, s, "r", 2, 1)
		put(t, x, "aa")
		wantErrno(t, "Clear", x.Clear(), api.OK)
		wantCounts(t, x, 0, 0)
		wantFiles(t, s, nil)
	}
}

// TestClearFails: P13.1 and P0.2, removing a file fails: the memory is empty, the runs ahead of that file are gone, and those from it on are counted, with their numbers, as before.
func TestClearFails(t *testing.T) {
	for missing := range 4 {
		for more := missing + 1; more < 6; more++ {
			s := opened(t, newDisk(t, 60))
			x := sorter(t, s, "r", 1, 1)
			put(t, x, strings.Split("abcde", "")...)
			wantCounts(t, x, 1, 4)
			files := map[string]string{"r0": slowRun("a"), "r1": slowRun("b"), "r2": slowRun("c"), "r3": slowRun("d")}
			for _, n := range []int{missing, more} {
				if n < 4 {
					wantErrno(t, "Remove", s.Remove(x.name(n)), api.OK)
					delete(files, x.name(n))
				}
			}
			for n := range missing {
				delete(files, x.name(n))
			}
			for range 2 {
				wantErrno(t, "Clear", x.Clear(), api.ErrName)
				wantCounts(t, x, 0, 4-missing)
				wantFiles(t, s, files)
				wantNoRows(t, x, api.ErrName)
			}
			put(t, x, "e")
			wantCounts(t, x, 1, 4-missing)
			wantErrno(t, "Flush", x.Flush(), api.OK)
			wantCounts(t, x, 0, 5-missing)
			files["r4"] = slowRun("e") // no run that counts is written over
			wantFiles(t, s, files)
			for n := missing; n < 4; n++ {
				files[x.name(n)] = slowRun(string(rune('w' + n)))
				wantErrno(t, "Write", s.Write(x.name(n), []byte(files[x.name(n)])), api.OK)
			}
			wantRows(t, x, append([]string{"e"}, strings.Split("wxyz", "")[missing:]...)...)
			wantErrno(t, "Clear", x.Clear(), api.OK)
			wantCounts(t, x, 0, 0)
			wantFiles(t, s, nil)
			flush(t, x, "f")
			wantFiles(t, s, map[string]string{"r0": slowRun("f")})
		}
	}
}

// TestClearDown: P13.1, with a store that is down no file is removed; without runs nothing is to be removed.
func TestClearDown(t *testing.T) {
	d := newDisk(t, 60)
	s := opened(t, d)
	x := sorter(t, s, "r", 1, 2)
	put(t, x, "a", "b")
	d.Off()
	wantErrno(t, "Clear without runs", x.Clear(), api.OK)
	wantCounts(t, x, 0, 0)
	d.Back(0, 0)
	put(t, x, "a", "b", "c", "d", "e")
	d.Off()
	for range 2 {
		wantErrno(t, "Clear", x.Clear(), api.ErrDown)
		wantCounts(t, x, 0, 2)
		put(t, x, "f")
	}
	d.Back(0, 0)
	wantFiles(t, s, map[string]string{"r0": slowRun("a", "b"), "r1": slowRun("c", "d")})
	wantRows(t, x, "a", "b", "c", "d", "f")
	wantErrno(t, "Clear", x.Clear(), api.OK)
	wantFiles(t, s, nil)
}

// rewrite replaces everything by records, and says that they are all there is then.
func rewrite(t *testing.T, x *Sorter, recs ...string) {
	t.Helper()
	wantErrno(t, "Rewrite", x.Rewrite(lists(recs)), api.OK)
	wantCounts(t, x, 0, min(len(recs), 1))
	files := map[string]string{}
	if len(recs) > 0 {
		files["r0"] = slowRun(recs...)
	}
	wantFiles(t, x.store, files)
	wantRows(t, x, recs...)
}

// TestRewrite: P13.1, everything is replaced by one run with the number 0, or by none: by equal records, and by fewer and more than the room and than there were.
func TestRewrite(t *testing.T) {
	for runs := range 4 {
		for held := range 3 {
			for _, l := range []string{"", "aa", "aa aa", "aa ab", "aa ab ab b\xff c\x00 \x80a \xff\xff", "zz zz zz zz zz", "\x00\x00 \xff\xff"} {
				s := opened(t, newDisk(t, 60))
				x := sorter(t, s, "r", 2, 2)
				for range runs {
					flush(t, x, "mm", "mn")
				}
				put(t, x, []string{"mo", "mo"}[:held]...)
				rewrite(t, x, strings.Fields(l)...)
				rewrite(t, x, strings.Fields(l)...)
				flush(t, x, "gg")
				wantCounts(t, x, 0, min(len(l), 1)+1)
				wantRows(t, x, slices.Sorted(slices.Values(append(strings.Fields(l), "gg")))...)
				rewrite(t, x)
			}
		}
	}
}

// TestRewriteForm: P13.1 and P0.3, records of a wrong width, or not in ascending order: nothing is changed.
func TestRewriteForm(t *testing.T) {
	s := opened(t, newDisk(t, 60))
	x := sorter(t, s, "r", 2, 2)
	put(t, x, "mm", "mn", "mo")
	long := slices.Repeat([]string{"aa"}, body/2+1) // and too long, which comes behind
	for _, l := range [][]string{
		{""}, {"a"}, {"abc"}, {"aa", ""}, {"", "aa"}, {"aa", "a"}, {"aa", "b"}, {"aa", "bbb"}, {"aa", "bb", "cc", "ccc"}, {"a", "bbb"}, {"", "aaaa"}, {strings.Repeat("a", 258)},
		{"bb", "aa"}, {"ab", "aa"}, {"aa", "cc", "bb"}, {"aa", "cc", "bb", "dd"}, {"aa", "bb", "aa"}, {"\x80a", "\x7fa"}, {"\xff\xff", "\x00\x00"},
		{"bb", "a"}, {"bbb", "aa"}, slices.Concat([]string{"ab"}, long), slices.Concat(long, []string{"a"}), slices.Concat(long, []string{"Z\xff"}), slices.Concat([]string{""}, long),
	} {
		wantErrno(t, "Rewrite of "+shown(l), x.Rewrite(lists(l)), api.ErrForm)
		wantCounts(t, x, 1, 1)
		wantFiles(t, s, map[string]string{"r0": slowRun("mm", "mn")})
	}
	wantErrno(t, "Rewrite", x.Rewrite([][]byte{nil}), api.ErrForm)
	wantErrno(t, "Rewrite", x.Rewrite([][]byte{[]byte("aa"), nil}), api.ErrForm)
	wantRows(t, x, "mm", "mn", "mo")
}

// TestRewriteMany: P13.1 and P0.3, as many records as a section takes, one fewer, and one more, which changes nothing. A file takes less than a section: where it is exceeded, the Clear was performed.
func TestRewriteMany(t *testing.T) {
	for width := 1; width <= widest; width++ {
		if width > 3 && width < 60 && width != 12 && width != 16 && width != 17 && body%width != edges {
			continue
		}
		most := body / width
		for _, count := range []int{(body - edges) / width, (body-edges)/width + 1, most, most + 1, 2 * most} {
			s := opened(t, newDisk(t, 60))
			x := sorter(t, s, "r", width, 2)
			old := slices.Repeat([]string{strings.Repeat("m", width)}, 3)
			put(t, x, old...)
			recs := slices.Repeat([][]byte{[]byte(strings.Repeat("x", width))}, count)
			switch size := count * width; {
			case size > body:
				wantErrno(t, "Rewrite of too many", x.Rewrite(recs), api.ErrLong)
				wantCounts(t, x, 1, 1)
				wantRows(t, x, old...)
				wantFiles(t, s, map[string]string{"r0": slowRun(old[:2]...)})
			case size+edges > body:
				wantErrno(t, "Rewrite of more than a file takes", x.Rewrite(recs), api.ErrLong)
				wantCounts(t, x, 0, 0)
				wantFiles(t, s, nil)
			default:
				wantErrno(t, "Rewrite", x.Rewrite(recs), api.OK)
				wantCounts(t, x, 0, 1)
				wantRows(t, x, slices.Repeat([]string{strings.Repeat("x", width)}, count)...)
			}
		}
	}
}

// TestRewriteOrder: P13.1 and P0.2, the order of the errors: the form, then the length, then that of the Clear, then that of writing.
func TestRewriteOrder(t *testing.T) {
	d := newDisk(t, 60)
	s := opened(t, d)
	x := sorter(t, s, "r", 64, 2)
	rec := []byte(strings.Repeat("m", 64))
	put(t, x, string(rec), string(rec), string(rec))
	many := slices.Repeat([][]byte{rec}, body/64+1)
	d.Off()
	wantErrno(t, "Rewrite", x.Rewrite(append(slices.Clone(many), rec[:63])), api.ErrForm)
	wantErrno(t, "Rewrite", x.Rewrite(many), api.ErrLong)
	wantCounts(t, x, 1, 1)
	wantErrno(t, "Rewrite", x.Rewrite(many[1:]), api.ErrDown)
	wantCounts(t, x, 0, 1)
	d.Back(0, 0)
	wantErrno(t, "Remove", s.Remove("r0"), api.OK)
	wantErrno(t, "Rewrite", x.Rewrite(many[1:]), api.ErrName)
	wantErrno(t, "Write", s.Write("r0", nil), api.OK)
	wantErrno(t, "Rewrite", x.Rewrite(many[1:]), api.ErrLong)
	wantCounts(t, x, 0, 0)
	wantFiles(t, s, nil)
	d.Off()
	wantErrno(t, "Rewrite", x.Rewrite(many[1:]), api.ErrDown)
	wantErrno(t, "Rewrite", x.Rewrite(many), api.ErrLong)
}

// TestRewriteClearFails: P13.1, a Rewrite whose Clear fails has performed it as far as it went, and writes nothing.
func TestRewriteClearFails(t *testing.T) {
	for _, recs := range [][]string{{"x", "y"}, nil} {
		for missing := range 3 {
			s := opened(t, newDisk(t, 60))
			x := sorter(t, s, "r", 1, 1)
			put(t, x, "a", "b", "c", "d")
			wantErrno(t, "Remove", s.Remove(x.name(missing)), api.OK)
			files := map[string]string{}
			for n := missing + 1; n < 3; n++ {
				files[x.name(n)] = slowRun(string(rune('a' + n)))
			}
			for range 2 {
				wantErrno(t, "Rewrite", x.Rewrite(lists(recs)), api.ErrName)
				wantCounts(t, x, 0, 3-missing)
				wantFiles(t, s, files)
				put(t, x, "e")
			}
			wantErrno(t, "Write", s.Write(x.name(missing), nil), api.OK)
			rewrite(t, x, recs...)
		}
	}
}

// TestRewriteDown: P13.1, with a store that is down: what fails is the Clear if there are runs, else the writing, else nothing.
func TestRewriteDown(t *testing.T) {
	d := newDisk(t, 60)
	s := opened(t, d)
	x := sorter(t, s, "r", 1, 1)
	put(t, x, "a", "b")
	d.Off()
	for _, recs := range [][]string{{"x"}, nil} {
		wantErrno(t, "Rewrite", x.Rewrite(lists(recs)), api.ErrDown)
		wantCounts(t, x, 0, 1)
	}
	d.Back(0, 0)
	wantRows(t, x, "a")
	wantErrno(t, "Clear", x.Clear(), api.OK)
	put(t, x, "a")
	d.Off()
	wantErrno(t, "Rewrite", x.Rewrite(lists([]string{"x"})), api.ErrDown)
	wantCounts(t, x, 0, 0)
	put(t, x, "a")
	wantErrno(t, "Rewrite of nothing", x.Rewrite(nil), api.OK)
	wantCounts(t, x, 0, 0)
	d.Back(0, 0)
	wantFiles(t, s, nil)
	rewrite(t, x, "y")
}

// TestRewriteArgument: P0.4, Rewrite neither modifies nor keeps its records, nor what is behind them.
func TestRewriteArgument(t *testing.T) {
	s := opened(t, newDisk(t, 60))
	x := sorter(t, s, "r", 2, 2)
	whole := []byte("aabbccddee")
	recs := make([][]byte, 0, 6)
	for i := range 4 {
		recs = append(recs, whole[2*i:2*i+2])
	}
	rest := recs[:6]
	rest[4], rest[5] = whole[8:], whole[:1]
	for range 2 {
		wantErrno(t, "Rewrite", x.Rewrite(recs), api.OK)
		if string(whole) != "aabbccddee" {
			t.Fatalf("the records are %q", whole)
		}
		for i, rec := range rest[:5] {
			if len(rec) != 2 || &rec[0] != &whole[2*i] {
				t.Fatalf("record %d is another", i)
			}
		}
		if len(rest[5]) != 1 || &rest[5][0] != &whole[0] {
			t.Fatal("what is behind the records is another")
		}
	}
	seq := rows(t, x)
	for i := range whole {
		whole[i] = '!'
	}
	clear(rest)
	wantSeq(t, seq, "aa", "bb", "cc", "dd")
	wantRows(t, x, "aa", "bb", "cc", "dd")
	wantFiles(t, s, map[string]string{"r0": slowRun("aa", "bb", "cc", "dd")})
}
