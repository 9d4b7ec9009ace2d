package runs

import (
	"palmer/api"
	"palmer/store"
	"slices"
	"strconv"
	"strings"
	"testing"
)

// TestPut: P13.1, records come into memory up to the room, alike ones too, and no file is written until it is exceeded.
func TestPut(t *testing.T) {
	for _, room := range []int{1, 2, 3, 10, 255, 4096} {
		s := opened(t, newDisk(t, 40))
		x := sorter(t, s, "r", 3, room)
		for n := range room {
			wantCounts(t, x, n, 0)
			put(t, x, []string{"abc", "\x00\xff\x80", "abc"}[n%3])
		}
		wantCounts(t, x, room, 0)
		wantFiles(t, s, nil)
	}
}

// TestPutForm: P13.1 and P0.3, records that are too short, too long, nil and empty: nothing is added, and nothing flushed, also when the memory is full.
func TestPutForm(t *testing.T) {
	for _, width := range []int{1, 2, 12, 63, 64} {
		for held := range 4 {
			s := opened(t, newDisk(t, 40))
			x := sorter(t, s, "r", width, 3)
			want := slices.Repeat([]string{strings.Repeat("x", width)}, held)
			put(t, x, want...)
			for _, rec := range [][]byte{nil, {}, make([]byte, width-1), make([]byte, 0, width), make([]byte, width+1), make([]byte, 2*width), make([]byte, width+256), make([]byte, 1<<16+width), make([]byte, width)[:width-1]} {
				wantErrno(t, "Put", x.Put(rec), api.ErrForm)
				wantCounts(t, x, held, 0)
			}
			wantRows(t, x, want...)
			wantFiles(t, s, nil)
		}
	}
}

// TestPutFull: P13.1, Put into a memory that is full makes a run of what is there, in ascending order, and the record is then alone in memory.
func TestPutFull(t *testing.T) {
	s := opened(t, newDisk(t, 40))
	x := sorter(t, s, "of", 2, 3)
	put(t, x, "bb", "ab", "ba")
	wantFiles(t, s, nil)
	put(t, x, "aa")
	wantCounts(t, x, 1, 1)
	files := map[string]string{"of0": slowRun("ab", "ba", "bb")}
	wantFiles(t, s, files)
	put(t, x, "zz", "aa")
	wantCounts(t, x, 3, 1)
	wantFiles(t, s, files)
	put(t, x, "\xff\x00")
	wantCounts(t, x, 1, 2)
	files["of1"] = slowRun("aa", "aa", "zz")
	wantFiles(t, s, files)
	put(t, x, "\x00\xff", "\x80\x00", "\x7f\xff")
	wantCounts(t, x, 1, 3)
	files["of2"] = slowRun("\x00\xff", "\x80\x00", "\xff\x00")
	wantFiles(t, s, files)
	wantRows(t, x, "\x00\xff", "aa", "aa", "ab", "ba", "bb", "zz", "\x7f\xff", "\x80\x00", "\xff\x00")
}

// TestFlush: P13.1, each Flush of records makes a run with the next number, and one without records does nothing.
func TestFlush(t *testing.T) {
	s := opened(t, newDisk(t, 60))
	x := sorter(t, s, "r", 1, 4)
	files := map[string]string{}
	for n := range 12 {
		wantCounts(t, x, 0, n)
		wantErrno(t, "Flush without records", x.Flush(), api.OK)
		wantCounts(t, x, 0, n)
		l := strings.Split("dbca", "")[:n%4+1]
		flush(t, x, l...)
		files["r"+strconv.Itoa(n)] = slowRun(slices.Sorted(slices.Values(l))...)
		wantFiles(t, s, files)
	}
	wantCounts(t, x, 0, 12)
	wantErrno(t, "Commit", s.Commit(), api.OK)
	wantFiles(t, s, files)
	if s.Version() != 1 {
		t.Error("a commit was there ahead of the first")
	}
}

// TestFlushWidest: P13.1, as many and as wide records as there may be in memory are one run.
func TestFlushWidest(t *testing.T) {
	s := opened(t, newDisk(t, 40))
	x := sorter(t, s, strings.Repeat("r", longest), widest, roomiest)
	l := (&dice{}).records(roomiest, widest, 256)
	put(t, x, l...)
	wantFiles(t, s, nil)
	put(t, x, l[0])
	wantCounts(t, x, 1, 1)
	want := slices.Sorted(slices.Values(l))
	wantFiles(t, s, map[string]string{strings.Repeat("r", longest) + "0": slowRun(want...)})
	x.Forget()
	wantRows(t, x, want...)
}

// TestFlushGap: P13.1, the next number is that behind the runs that count, even if there is a file of that name.
func TestFlushGap(t *testing.T) {
	files := map[string]string{"r0": slowRun("m"), "r2": "other", "r3": slowRun("z"), "r": "more"}
	s := filled(t, files)
	x := sorter(t, s, "r", 1, 4)
	flush(t, x, "b", "a")
	files["r1"] = slowRun("a", "b")
	wantCounts(t, x, 0, 2)
	wantFiles(t, s, files)
	wantRows(t, x, "a", "b", "m")
	flush(t, x, "c")
	files["r2"] = slowRun("c")
	wantCounts(t, x, 0, 3)
	wantFiles(t, s, files)
	wantRows(t, x, "a", "b", "c", "m")
	wantCounts(t, sorter(t, s, "r", 1, 4), 0, 4)
}

// downs are the ways in which a store comes to be down, and whether it can be up again.
var downs = []func(*testing.T) (s *store.Store, up func() bool){
	func(t *testing.T) (*store.Store, func() bool) {
		d := newDisk(t, 60)
		s := opened(t, d)
		d.Off()
		return s, func() bool { d.Back(0, 0); return true }
	},
	func(t *testing.T) (*store.Store, func() bool) {
		d := newDisk(t, 60)
		s := opened(t, d)
		wantErrno(t, "Write", s.Write("other", nil), api.OK)
		d.Fuse(0)
		wantErrno(t, "Commit", s.Commit(), api.ErrDown)
		d.Back(0, 0)
		return s, func() bool { return false }
	},
	func(t *testing.T) (*store.Store, func() bool) {
		return nil, func() bool { return false }
	},
}

// TestFlushFails: P13.1 and P0.3, writing fails: Flush answers that, the records stay, and can be flushed later; Put does not add its record then, but finds the width wrong first.
func TestFlushFails(t *testing.T) {
	for _, down := range downs {
		s, up := down(t)
		names := s.Names()
		x := sorter(t, s, "r", 2, 3)
		wantErrno(t, "Flush without records", x.Flush(), api.OK)
		put(t, x, "cc", "aa")
		for range 3 {
			wantErrno(t, "Flush", x.Flush(), api.ErrDown)
			wantCounts(t, x, 2, 0)
		}
		put(t, x, "bb")
		for range 3 {
			wantErrno(t, "Flush", x.Flush(), api.ErrDown)
			wantErrno(t, "Put", x.Put([]byte("dd")), api.ErrDown)
			wantErrno(t, "Put", x.Put([]byte("ddd")), api.ErrForm)
			wantCounts(t, x, 3, 0)
			wantRows(t, x, "aa", "bb", "cc") // there is no run, and so nothing is read
		}
		if !slices.Equal(s.Names(), names) {
			t.Fatal("there is a file")
		}
		if up() {
			put(t, x, "dd")
			wantCounts(t, x, 1, 1)
			wantFiles(t, s, map[string]string{"r0": slowRun("aa", "bb", "cc")})
			wantRows(t, x, "aa", "bb", "cc", "dd")
		}
	}
}

// TestPutArgument: P0.4, Put neither modifies nor keeps a record, nor what is behind it.
func TestPutArgument(t *testing.T) {
	s := opened(t, newDisk(t, 60))
	x := sorter(t, s, "r", 2, 2)
	whole := []byte("..........")
	for i := range 5 {
		copy(whole, "..........")
		copy(whole[2*i:], string([]byte{'z' - byte(i), 'a'}))
		before := string(whole)
		wantErrno(t, "Put", x.Put(whole[2*i:2*i+2]), api.OK)
		if string(whole) != before {
			t.Fatalf("the record and those around it are %q, not %q", whole, before)
		}
		for k := range whole {
			whole[k] = '!'
		}
	}
	wantErrno(t, "Flush", x.Flush(), api.OK)
	wantFiles(t, s, map[string]string{"r0": slowRun("ya", "za"), "r1": slowRun("wa", "xa"), "r2": slowRun("va")})
	wantRows(t, x, "va", "wa", "xa", "ya", "za")
}

// TestPutOrder: P13.1, the records in memory stay what they are when others are put, flushed or asked for, in whatever order they were put.
func TestPutOrder(t *testing.T) {
	s := opened(t, newDisk(t, 60))
	x := sorter(t, s, "r", 1, 5)
	put(t, x, "d", "b")
	wantRows(t, x, "b", "d")
	put(t, x, "a")
	wantRows(t, x, "a", "b", "d")
	put(t, x, "c", "a")
	wantRows(t, x, "a", "a", "b", "c", "d")
	put(t, x, "c")
	wantFiles(t, s, map[string]string{"r0": slowRun("a", "a", "b", "c", "d")})
	wantRows(t, x, "a", "a", "b", "c", "c", "d")
}
