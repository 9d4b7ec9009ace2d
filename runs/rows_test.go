package runs

import (
	"iter"
	"palmer/api"
	"slices"
	"strings"
	"testing"
)

// TestRows: P13.1 and P13.2, without records, with records of the memory alone, of runs alone, and of both.
func TestRows(t *testing.T) {
	s := opened(t, newDisk(t, 60))
	x := sorter(t, s, "r", 2, 3)
	wantRows(t, x)
	put(t, x, "cc", "aa", "bb")
	wantRows(t, x, "aa", "bb", "cc")
	wantErrno(t, "Flush", x.Flush(), api.OK)
	wantRows(t, x, "aa", "bb", "cc")
	flush(t, x, "zz", "ab")
	wantRows(t, x, "aa", "ab", "bb", "cc", "zz")
	put(t, x, "\xff\xff", "ba", "\x00\x00")
	wantRows(t, x, "\x00\x00", "aa", "ab", "ba", "bb", "cc", "zz", "\xff\xff")
	wantRows(t, sorter(t, s, "r", 2, 3), "aa", "ab", "bb", "cc", "zz")
}

// TestRowsEqual: P13.1, records that are equal come out as often as they were put, within a run, in several, and in memory.
func TestRowsEqual(t *testing.T) {
	x := sorter(t, opened(t, newDisk(t, 60)), "r", 1, 4)
	flush(t, x, "a", "a", "b")
	flush(t, x, "a", "b", "b", "a")
	flush(t, x, "c")
	flush(t, x, "c")
	put(t, x, "b", "a", "a")
	wantRows(t, x, "a", "a", "a", "a", "a", "a", "b", "b", "b", "b", "c", "c")
}

// TestRowsBytes: P13.1, records ascend bytewise, by the first byte that differs, and bytes have no sign.
func TestRowsBytes(t *testing.T) {
	x := sorter(t, opened(t, newDisk(t, 60)), "r", 2, 100)
	var want []string
	for i := range 256 {
		want = append(want, string([]byte{byte(i), byte(^i)}), string([]byte{byte(i), 128}))
	}
	slices.Sort(want)
	for i := range want {
		put(t, x, want[i*201%len(want)])
	}
	wantCounts(t, x, 12, 5)
	wantRows(t, x, want...)
}

// TestRowsEmptyRun: P13.1, a run without records is one.
func TestRowsEmptyRun(t *testing.T) {
	empty := slowRun()
	for _, files := range []map[string]string{
		{"r0": empty},
		{"r0": empty, "r1": empty},
		{"r0": empty, "r1": slowRun("aa", "bb"), "r2": empty},
		{"r0": slowRun("bb"), "r1": empty, "r2": slowRun("aa")},
	} {
		x := sorter(t, filled(t, files), "r", 2, 3)
		wantCounts(t, x, 0, len(files))
		want := []string{"aa", "bb"}[:2*(len(files)/3)]
		wantRows(t, x, want...)
		put(t, x, "cc")
		wantRows(t, x, append(want, "cc")...)
	}
}

// broken are contents of files that are not runs of the width 2.
func broken() map[string]string {
	good := slowRun("aa", "bb")
	l := map[string]string{
		"empty":             "",
		"zeros":             strings.Repeat("\x00", 30),
		"text":              "no run",
		"two sections":      good + good,
		"two, one empty":    good + slowRun(),
		"two of each kind":  good + slowSection(7, ""),
		"a byte more":       good + "\x00",
		"ahead of it":       "\x00" + good,
		"another kind":      slowSection(83, "aabb"),
		"one below":         slowSection(81, "aabb"),
		"kind 0":            slowSection(0, "aabb"),
		"walkers":           slowSection(80, ""),
		"another width":     slowRun("abc"),
		"less":              slowRun("a"),
		"an odd number":     slowRun("aa", "bb", "c"),
		"an odd number, up": slowRun("aa", "b"),
		"not ascending":     slowRun("bb", "aa"),
		"not in the second": slowRun("ab", "aa"),
		"not at the end":    slowRun("aa", "bb", "cc", "bb"),
		"not for a sign":    slowRun("\x80a", "\x7fa"),
		"not in between":    slowRun("aa", "cc", "bb", "dd"),
		"too long a body":   slowSection(82, strings.Repeat("aa", body/2+1))[:1000],
	}
	for n := range good {
		l["cut at "+good[:n]] = good[:n]
		b := []byte(good)
		b[n] ^= 1
		l["changed to "+string(b)] = string(b)
	}
	return l
}

// TestRowsCorrupt: P13.1, P0.2 and P0.3, a file that is not a run of this width: it counts as one, but the records are not read, as long as it is there.
func TestRowsCorrupt(t *testing.T) {
	good := slowRun("aa", "bb")
	for what, b := range broken() {
		for n := range 3 {
			files := map[string]string{"r0": good, "r1": good, "r2": good}
			files["r"+string(rune('0'+n))] = b
			s := filled(t, files)
			x := sorter(t, s, "r", 2, 3)
			put(t, x, "ab")
			for range 2 {
				if seq, err := x.Rows(); seq != nil || err != api.ErrCorrupt {
					t.Fatalf("with run %d %q, Rows is error %d", n, what, err)
				}
				wantCounts(t, x, 1, 3)
				wantFiles(t, s, files)
			}
			wantErrno(t, "Write", s.Write("r"+string(rune('0'+n)), []byte(slowRun("cc"))), api.OK)
			wantRows(t, x, "aa", "aa", "ab", "bb", "bb", "cc")
		}
	}
}

// TestRowsWidth: P13.1, whether a file is a run hangs on the width: on the number of its bytes, and on where its records end.
func TestRowsWidth(t *testing.T) {
	const text = "abacabadabaeabaf"
	for width := 1; width <= widest; width++ {
		x := sorter(t, filled(t, map[string]string{"r0": slowRun(text)}), "r", width, 3)
		want, ok := slowRead(slowRun(text), width)
		if ok != (width == 4 || width == 8 || width == 16) {
			t.Fatalf("of width %d, that is a run: %v", width, ok)
		}
		if ok {
			wantRows(t, x, want...)
		} else {
			wantNoRows(t, x, api.ErrCorrupt)
		}
	}
}

// TestRowsMissing: P13.1, a run whose file is there no more.
func TestRowsMissing(t *testing.T) {
	s := opened(t, newDisk(t, 60))
	x := sorter(t, s, "r", 1, 3)
	flush(t, x, "a")
	flush(t, x, "b")
	put(t, x, "c")
	wantErrno(t, "Remove", s.Remove("r1"), api.OK)
	wantNoRows(t, x, api.ErrName)
	wantCounts(t, x, 1, 2)
	s.Forget()
	wantNoRows(t, x, api.ErrName)
	wantCounts(t, x, 1, 2)
	wantErrno(t, "Write", s.Write("r0", []byte(slowRun("y"))), api.OK)
	wantNoRows(t, x, api.ErrName)
	wantErrno(t, "Write", s.Write("r1", []byte(slowRun("x", "z"))), api.OK)
	wantRows(t, x, "c", "x", "y", "z")
}

// TestRowsSpoilt: P13.1, a run of which a byte on the disk was changed is not read, and those ahead of it and behind it do not help.
func TestRowsSpoilt(t *testing.T) {
	for n := range 3 {
		d := newDisk(t, 60)
		s := opened(t, d)
		x := sorter(t, s, "r", 12, 30)
		l := (&dice{}).records(90, 12, 3)
		put(t, x, l...)
		wantErrno(t, "Flush", x.Flush(), api.OK)
		wantErrno(t, "Commit", s.Commit(), api.OK)
		wantRows(t, x, slices.Sorted(slices.Values(l))...)
		at := 2*api.Slot + 4*n + n // each of the three has four pages
		wantErrno(t, "Spoil", d.Spoil(at, 20+n, 4), api.OK)
		wantNoRows(t, x, api.ErrCorrupt)
		wantCounts(t, x, 0, 3)
		wantErrno(t, "Spoil", d.Spoil(at, 20+n, 4), api.OK)
		wantRows(t, x, slices.Sorted(slices.Values(l))...)
	}
}

// TestRowsFirstError: P13.1 and P0.2, of several runs with errors, that of the lowest number answers, not that of the lowest name.
func TestRowsFirstError(t *testing.T) {
	for first := range 12 {
		for second := first + 1; second < 12; second++ {
			s := opened(t, newDisk(t, 60))
			x := sorter(t, s, "r", 1, 1)
			put(t, x, strings.Split("abcdefghijklm", "")...)
			wantCounts(t, x, 1, 12)
			wantErrno(t, "Remove", s.Remove(x.name(first)), api.OK)
			wantErrno(t, "Write", s.Write(x.name(second), nil), api.OK)
			wantNoRows(t, x, api.ErrName)
			wantErrno(t, "Write", s.Write(x.name(first), []byte(slowRun("b", "a"))), api.OK)
			wantErrno(t, "Remove", s.Remove(x.name(second)), api.OK)
			wantNoRows(t, x, api.ErrCorrupt)
		}
	}
}

// TestRowsDown: P13.1, with a store that is down, runs are not read, whatever is wrong with them; without runs there is nothing to read.
func TestRowsDown(t *testing.T) {
	d := newDisk(t, 60)
	s := opened(t, d)
	x := sorter(t, s, "r", 1, 2)
	put(t, x, "b", "a")
	d.Off()
	wantRows(t, x, "a", "b")
	wantCounts(t, sorter(t, s, "r", 1, 2), 0, 0)
	d.Back(0, 0)
	put(t, x, "c")
	wantErrno(t, "Write", s.Write("r1", nil), api.OK)
	d.Off()
	wantNoRows(t, x, api.ErrDown)
	wantCounts(t, x, 1, 1)
	y := sorter(t, s, "r", 1, 2) // the names are known all the same
	wantCounts(t, y, 0, 2)
	wantNoRows(t, y, api.ErrDown)
	s.Forget()
	wantCounts(t, sorter(t, s, "r", 1, 2), 0, 0)
	wantNoRows(t, x, api.ErrDown)
	d.Back(0, 0)
	wantNoRows(t, x, api.ErrName)
}

// changes are what may be done behind a call of Rows to a sorter with runs and records in memory.
var changes = map[string]func(t *testing.T, x *Sorter){
	"Put":            func(t *testing.T, x *Sorter) { put(t, x, "a") },
	"Put with Flush": func(t *testing.T, x *Sorter) { put(t, x, "a", "b", "c", "x", "y") },
	"Flush":          func(t *testing.T, x *Sorter) { flush(t, x) },
	"Forget":         func(t *testing.T, x *Sorter) { x.Forget() },
	"Forget and Put": func(t *testing.T, x *Sorter) { x.Forget(); put(t, x, "x", "x", "x") },
	"Clear":          func(t *testing.T, x *Sorter) { wantErrno(t, "Clear", x.Clear(), api.OK) },
	"Clear and more": func(t *testing.T, x *Sorter) {
		wantErrno(t, "Clear", x.Clear(), api.OK)
		put(t, x, "x", "x", "x", "x", "x", "x", "x")
	},
	"Rewrite": func(t *testing.T, x *Sorter) {
		wantErrno(t, "Rewrite", x.Rewrite([][]byte{{'x'}, {'y'}}), api.OK)
	},
	"Write":  func(t *testing.T, x *Sorter) { wantErrno(t, "Write", x.store.Write("r1", []byte("x")), api.OK) },
	"Remove": func(t *testing.T, x *Sorter) { wantErrno(t, "Remove", x.store.Remove("r0"), api.OK) },
	"Discard": func(t *testing.T, x *Sorter) {
		x.store.Forget()
		wantNoRows(t, x, api.ErrName)
	},
}

// TestRowsLater: P13.1, an iterator has the records as they were at the call of Rows: what is put, flushed, forgotten, cleared or written behind it is not met, ahead of the iteration and within it.
func TestRowsLater(t *testing.T) {
	want := strings.Split("defghijk", "")
	for what, change := range changes {
		for at := -1; at < len(want); at++ {
			x := sorter(t, opened(t, newDisk(t, 60)), "r", 1, 3)
			put(t, x, "k", "g", "d", "e", "j", "h", "i", "f")
			wantCounts(t, x, 2, 2)
			seq := rows(t, x)
			if at < 0 {
				change(t, x)
			}
			var got []string
			for rec := range seq {
				if len(got) == at {
					change(t, x)
				}
				got = append(got, string(rec))
			}
			if !slices.Equal(got, want) {
				t.Fatalf("%s at record %d: the records are %s", what, at, shown(got))
			}
			wantSeq(t, seq, want...)
		}
	}
}

// TestRowsLeft: P13.1, an iterator that is left gives nothing more, and one that is gone through again starts from the front.
func TestRowsLeft(t *testing.T) {
	x := sorter(t, opened(t, newDisk(t, 60)), "r", 1, 3)
	put(t, x, "b", "a", "d", "a", "c", "b", "a", "c")
	want := strings.Split("aaabbccd", "")
	seq := rows(t, x)
	for most := 1; most <= len(want)+1; most++ {
		var got []string
		calls := 0
		seq(func(rec []byte) bool {
			calls++
			got = append(got, string(rec))
			return calls < most
		})
		if !slices.Equal(got, want[:min(most, len(want))]) {
			t.Fatalf("the first %d are %s", most, shown(got))
		}
		wantSeq(t, seq, want...)
	}
	wantRows(t, x, want...)
	wantCounts(t, x, 2, 2)
}

// TestRowsNested: P13.1, each loop over an iterator has its own place, within another one too.
func TestRowsNested(t *testing.T) {
	x := sorter(t, opened(t, newDisk(t, 60)), "r", 1, 3)
	put(t, x, "b", "a", "d", "a", "c", "b", "a")
	want := strings.Split("aaabbcd", "")
	seq := rows(t, x)
	var outer []string
	for rec := range seq {
		outer = append(outer, string(rec))
		wantSeq(t, seq, want...)
		wantRows(t, x, want...)
	}
	if !slices.Equal(outer, want) {
		t.Errorf("a loop around others gives %s", shown(outer))
	}
	one, stopOne := iter.Pull(seq)
	defer stopOne()
	other, stopOther := iter.Pull(seq)
	defer stopOther()
	for _, w := range want {
		for _, next := range []func() ([]byte, bool){one, other} {
			if rec, ok := next(); !ok || string(rec) != w {
				t.Errorf("in turn, a record is %q, not %q", rec, w)
			}
		}
	}
}

// TestRowsMemory: P0.4 and P13.1, each record is newly allocated, each time: writing into it, and behind it, changes nothing, even while others are to come.
func TestRowsMemory(t *testing.T) {
	s := opened(t, newDisk(t, 60))
	x := sorter(t, s, "r", 2, 3)
	put(t, x, "cc", "aa", "bb", "cc", "aa", "bb", "aa", "dd")
	want := strings.Fields("aa aa aa bb bb cc cc dd")
	files := map[string]string{"r0": slowRun("aa", "bb", "cc"), "r1": slowRun("aa", "bb", "cc")}
	seq := rows(t, x)
	var kept [][]byte
	for range 3 {
		var got []string
		for rec := range seq {
			got = append(got, string(rec))
			kept = append(kept, rec)
			whole := rec[:cap(rec)]
			for i := range whole {
				whole[i] = byte(len(kept))
			}
		}
		if !slices.Equal(got, want) {
			t.Fatalf("the records are %s", shown(got))
		}
		wantRows(t, x, want...)
		wantFiles(t, s, files)
	}
	for i, rec := range kept {
		if rec[0] != byte(i+1) || rec[1] != byte(i+1) {
			t.Errorf("record %d has the memory of another", i)
		}
	}
	wantCounts(t, x, 2, 2)
	wantErrno(t, "Flush", x.Flush(), api.OK)
	files["r2"] = slowRun("aa", "dd")
	wantFiles(t, s, files)
}
