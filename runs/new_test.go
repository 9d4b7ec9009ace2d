package runs

import (
	"math"
	"palmer/api"
	"palmer/store"
	"slices"
	"strconv"
	"strings"
	"testing"
)

// TestExample: P13.1, the example of the chapter.
func TestExample(t *testing.T) {
	s := opened(t, newDisk(t, 40))
	x := sorter(t, s, "r", 1, 2)
	put(t, x, "3", "1", "2")
	wantCounts(t, x, 1, 1)
	wantRows(t, x, "1", "2", "3")
	wantFiles(t, s, map[string]string{"r0": slowRun("1", "3")})
}

// TestLimits: P13.1, the limits are those of the chapter.
func TestLimits(t *testing.T) {
	if api.MaxPrefix != longest || api.MaxWidth != widest || api.MaxRoom != roomiest || api.MaxBody != body {
		t.Error("a limit is another")
	}
}

// TestNewLimits: P13.1 and P0.2, which prefixes, widths and rooms there may be, each with each.
func TestNewLimits(t *testing.T) {
	s := filled(t, map[string]string{"r0": ""})
	prefixes := map[string]bool{"": false, "r": true, "\x00": true, "\xff0": true, strings.Repeat("r", 15): true, strings.Repeat("r", 16): true, strings.Repeat("\x80", 16): true, strings.Repeat("é", 8): true,
		strings.Repeat("r", 17): false, strings.Repeat("é", 9): false, strings.Repeat("r", 1000): false}
	widths := map[int]bool{math.MinInt: false, -64: false, -1: false, 0: false, 1: true, 2: true, 63: true, 64: true, 65: false, 256 + 1: false, 1<<32 + 1: false, math.MaxInt: false}
	rooms := map[int]bool{math.MinInt: false, -4096: false, -1: false, 0: false, 1: true, 2: true, 4095: true, 4096: true, 4097: false, 65536 + 1: false, 1<<32 + 1: false, math.MaxInt: false}
	for prefix, goodPrefix := range prefixes {
		for width, goodWidth := range widths {
			for room, goodRoom := range rooms {
				for _, s := range []*store.Store{s, nil} {
					x, err := New(s, prefix, width, room)
					want := api.ErrArg
					if goodPrefix && goodWidth && goodRoom {
						want = api.OK
					}
					if err != want || (x != nil) != (want == api.OK) {
						t.Fatalf("New(%q, %d, %d) is error %d, not %d", prefix, width, room, err, want)
					}
				}
			}
		}
	}
	wantFiles(t, s, map[string]string{"r0": ""})
}

// TestNewRuns: P13.1, which files are runs of a new sorter: by their names alone, from number 0 on, up to the first that is missing.
func TestNewRuns(t *testing.T) {
	for _, c := range []struct {
		files string
		want  int
	}{
		{"", 0},
		{"r", 0},
		{"r0", 1},
		{"r1", 0},
		{"r1 r2 r3", 0},
		{"r0 r1", 2},
		{"r0 r2", 1},
		{"r0 r1 r3 r4", 2},
		{"r0 r1 r2 r3 r4 r5 r6 r7 r8 r9", 10},
		{"r0 r1 r2 r3 r4 r5 r6 r7 r8 r9 r10 r11 r12", 13},
		{"r0 r1 r2 r3 r4 r5 r6 r7 r8 r10 r11 r12", 9},
		{"r00 r01 r02", 0},
		{"r0 r01 r001 r1x r1. r-1 r+1 r1e0 r0x1", 1},
		{"r r0 ra r-0 r-1 r1", 2},
		{"rr0 rr1 r1", 0},
		{"0 1 R0 s0 q0 q1 s1", 0},
		{"R0 r0 s0 s1", 1},
		{"xr0 xr1 r0x", 0},
	} {
		files := map[string]string{}
		for _, name := range strings.Fields(c.files) {
			files[name] = "no run"
		}
		s := filled(t, files)
		x := sorter(t, s, "r", 2, 3)
		wantCounts(t, x, 0, c.want)
		wantFiles(t, s, files)
		wantErrno(t, "Commit", s.Commit(), api.OK)
		wantCounts(t, sorter(t, s, "r", 2, 3), 0, c.want)
		wantErrno(t, "Write", s.Write("r"+strconv.Itoa(c.want), nil), api.OK) // what is written behind New does not count
		wantCounts(t, x, 0, c.want)
		s.Forget()
		if c.want > 0 {
			wantErrno(t, "Remove", s.Remove("r0"), api.OK)
			wantCounts(t, sorter(t, s, "r", 2, 3), 0, 0) // a file that is removed is none, though it is committed
			wantCounts(t, x, 0, c.want)
		}
	}
}

// TestNewPrefixes: P13.1, prefixes that are parts of one another, or end in digits, and those of the longest names.
func TestNewPrefixes(t *testing.T) {
	s := opened(t, newDisk(t, 400))
	long := strings.Repeat("\xff", longest)
	prefixes := []string{"a", "b1", "ab", "abc", "\x00", "0", long, long[1:], "é"}
	for i, prefix := range prefixes {
		x := sorter(t, s, prefix, 1, 1)
		wantCounts(t, x, 0, 0)
		put(t, x, strings.Split("edcba", "")[:i%5+1]...)
		wantErrno(t, "Flush", x.Flush(), api.OK)
		wantCounts(t, x, 0, i%5+1)
	}
	for i, prefix := range prefixes {
		x := sorter(t, s, prefix, 1, 1)
		wantCounts(t, x, 0, i%5+1)
		wantRows(t, x, slices.Sorted(slices.Values(strings.Split("edcba", "")[:i%5+1]))...)
	}
	wantCounts(t, sorter(t, s, "b", 1, 1), 0, 0) // b10 is there, and b0 is not
}

// TestNewMany: P13.1, many runs.
func TestNewMany(t *testing.T) {
	s := opened(t, newDisk(t, 40))
	x := sorter(t, s, "many", 2, 1)
	var want []string
	for n := range 3000 {
		rec := string([]byte{byte(n * 7 % 3000 >> 8), byte(n * 7 % 3000)})
		want = append(want, rec)
		put(t, x, rec)
		wantCounts(t, x, 1, n)
	}
	slices.Sort(want)
	wantRows(t, x, want...)
	wantErrno(t, "Flush", x.Flush(), api.OK)
	x = sorter(t, s, "many", 2, 4096)
	wantCounts(t, x, 0, 3000)
	wantRows(t, x, want...)
	wantErrno(t, "Remove", s.Remove("many2718"), api.OK)
	wantCounts(t, sorter(t, s, "many", 2, 1), 0, 2718)
}

// TestNil: P13.1 and P0.1, a nil sorter: every method.
func TestNil(t *testing.T) {
	var x *Sorter
	for range 2 {
		for _, rec := range [][]byte{nil, {}, {1}, make([]byte, 100)} {
			wantErrno(t, "Put", x.Put(rec), api.ErrArg)
		}
		wantErrno(t, "Flush", x.Flush(), api.ErrArg)
		wantErrno(t, "Clear", x.Clear(), api.ErrArg)
		for _, recs := range [][][]byte{nil, {}, {nil}, {{1}}, {{2}, {1}}, {{1}, {1, 2}}, make([][]byte, 1000)} {
			wantErrno(t, "Rewrite", x.Rewrite(recs), api.ErrArg)
		}
		x.Forget()
		wantCounts(t, x, 0, 0)
		seq, err := x.Rows()
		wantErrno(t, "Rows", err, api.ErrArg)
		if seq == nil {
			t.Fatal("Rows is no iterator")
		}
		wantSeq(t, seq)
		wantSeq(t, seq)
	}
}

// TestNilStore: P13.1 and P0.1, a sorter on a nil store has its memory alone.
func TestNilStore(t *testing.T) {
	x := sorter(t, nil, "r", 1, 2)
	wantRows(t, x)
	wantErrno(t, "Flush without records", x.Flush(), api.OK)
	put(t, x, "b", "a")
	wantErrno(t, "Put", x.Put([]byte("c")), api.ErrDown)
	wantErrno(t, "Put", x.Put(nil), api.ErrForm)
	wantErrno(t, "Flush", x.Flush(), api.ErrDown)
	wantCounts(t, x, 2, 0)
	wantRows(t, x, "a", "b")
	wantErrno(t, "Rewrite", x.Rewrite([][]byte{{2}, {1}}), api.ErrForm)
	wantCounts(t, x, 2, 0)
	wantErrno(t, "Rewrite", x.Rewrite([][]byte{{2}}), api.ErrDown)
	wantCounts(t, x, 0, 0) // the Clear was performed
	put(t, x, "b")
	wantErrno(t, "Rewrite", x.Rewrite(nil), api.OK)
	wantRows(t, x)
	put(t, x, "b")
	wantErrno(t, "Clear", x.Clear(), api.OK)
	wantRows(t, x)
}
