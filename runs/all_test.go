package runs

import (
	"iter"
	"maps"
	"palmer/api"
	"palmer/disk"
	"palmer/store"
	"slices"
	"strings"
	"testing"
)

// both are a store and a sorter on it, and what they are by the chapter.
type both struct {
	d *disk.Disk
	s *store.Store
	x *Sorter
	m *slow
}

func newBoth(t *testing.T, prefix string, width, room int) *both {
	t.Helper()
	d := newDisk(t, 3000)
	b := &both{d: d, s: opened(t, d), m: &slow{saved: map[string]string{}, files: map[string]string{}, prefix: prefix}}
	b.again(t, width, room)
	return b
}

// again is another sorter on the same store.
func (b *both) again(t *testing.T, width, room int) {
	t.Helper()
	b.x = sorter(t, b.s, b.m.prefix, width, room)
	b.m.again(width, room)
}

// want: P13.1, all that can be asked is as the chapter says.
func (b *both) want(t *testing.T) {
	t.Helper()
	wantCounts(t, b.x, len(b.m.held), len(b.m.runs))
	if !slices.Equal(b.s.Names(), slices.Sorted(maps.Keys(b.m.files))) {
		t.Fatalf("the files are %q", b.s.Names())
	}
	if !b.m.down {
		wantFiles(t, b.s, b.m.files)
	}
	if l, err := b.m.rows(); err == api.OK {
		wantRows(t, b.x, l...)
	} else {
		wantNoRows(t, b.x, err)
	}
}

func (b *both) put(t *testing.T, rec string) {
	t.Helper()
	wantErrno(t, "Put", b.x.Put([]byte(rec)), b.m.put(rec))
}

func (b *both) flush(t *testing.T) {
	t.Helper()
	wantErrno(t, "Flush", b.x.Flush(), b.m.flush())
}

func (b *both) rewrite(t *testing.T, recs []string) {
	t.Helper()
	wantErrno(t, "Rewrite", b.x.Rewrite(lists(recs)), b.m.rewrite(recs))
}

// turn is a call on the sorter, with its argument from dice.
func (b *both) turn(t *testing.T, d *dice) {
	t.Helper()
	switch d.below(16) {
	case 0:
		b.put(t, d.record(d.below(4), 3))
	case 1:
		b.flush(t)
	case 2:
		if d.below(4) == 0 {
			b.x.Forget()
			b.m.held = nil
		}
	case 3:
		if d.below(4) == 0 {
			wantErrno(t, "Clear", b.x.Clear(), b.m.clear())
		}
	case 4:
		if l := d.records(d.below(8), b.m.width, 3); d.below(3) == 0 {
			b.rewrite(t, l)
		} else if d.below(2) == 0 {
			b.rewrite(t, slices.Sorted(slices.Values(l)))
		}
	default:
		b.put(t, d.record(b.m.width, 3))
	}
}

// stir is something that is done to the store beside the sorter.
func (b *both) stir(t *testing.T, d *dice) {
	t.Helper()
	name := b.m.prefix + []string{"0", "1", "2", "3", "00", ""}[d.below(6)]
	switch d.below(9) {
	case 0:
		b.again(t, 1+d.below(3), 1+d.below(5))
	case 1:
		if err := b.s.Commit(); err == api.OK {
			b.m.saved = maps.Clone(b.m.files)
		}
	case 2:
		b.s.Forget()
		b.m.files = maps.Clone(b.m.saved)
	case 3:
		if b.s.Remove(name) == api.OK {
			delete(b.m.files, name)
		}
	case 4:
		l := d.records(d.below(4), b.m.width, 3)
		if d.below(2) == 0 {
			slices.Sort(l)
		}
		if b.s.Write(name, []byte(slowRun(l...))) == api.OK {
			b.m.files[name] = slowRun(l...)
		}
	case 5:
		if b.s.Write(name, []byte("x")) == api.OK {
			b.m.files[name] = "x"
		}
	case 6:
		if d.below(3) == 0 {
			b.d.Off()
			b.m.down = true
		}
	default:
		b.d.Back(0, 0)
		b.m.down = false
	}
}

// TestTurns: P13.1 and P13.2, sequences of calls on a sorter, with each of the store's between them, against the chapter.
func TestTurns(t *testing.T) {
	for seed := range uint64(400) {
		d := &dice{seed << 32}
		b := newBoth(t, "r", 1+d.below(3), 1+d.below(5))
		calm := d.below(60) + 2
		for range 150 {
			if d.below(calm) == 0 {
				b.stir(t, d)
			} else {
				b.turn(t, d)
			}
			b.want(t)
		}
	}
}

// orders yields all sequences of up to that many letters of an alphabet.
func orders(most int, alphabet string) iter.Seq[string] {
	return func(yield func(string) bool) {
		l := []string{""}
		for range most + 1 {
			var next []string
			for _, s := range l {
				if !yield(s) {
					return
				}
				for _, letter := range alphabet {
					next = append(next, s+string(letter))
				}
			}
			l = next
		}
	}
}

// TestEach: P13.2, all short sequences of records, flushed at each place, with each small room: what comes out is what was put.
func TestEach(t *testing.T) {
	s := opened(t, newDisk(t, 40))
	for order := range orders(6, "abc.") {
		want := slices.Sorted(slices.Values(strings.Split(strings.ReplaceAll(order, ".", ""), "")))
		for room := 1; room <= 4; room++ {
			x := sorter(t, s, "r", 1, room)
			for _, letter := range order {
				if letter == '.' {
					wantErrno(t, "Flush", x.Flush(), api.OK)
				} else {
					put(t, x, string(letter))
				}
				if x.Held() > room {
					t.Fatalf("%q, room %d: %d are in memory", order, room, x.Held())
				}
			}
			wantRows(t, x, want...)
			wantErrno(t, "Clear", x.Clear(), api.OK)
		}
	}
	wantFiles(t, s, nil)
}

// TestSorts: P13.2, many records of widths and rooms of each kind, flushed now and then, some committed: what comes out is what was put, behind a new start too.
func TestSorts(t *testing.T) {
	for _, width := range []int{1, 2, 3, 4, 8, 12, 16, 33, 63, 64} {
		for i, room := range []int{1, 2, 3, 7, 64, 500, 4095, 4096} {
			for _, kinds := range []int{2, 3, 256} {
				d := &dice{uint64(width*room*kinds) << 32}
				s := opened(t, newDisk(t, 9000))
				x := sorter(t, s, "r", width, room)
				l := d.records(min(300*room, 5000), width, kinds)
				for n, rec := range l {
					put(t, x, rec)
					if d.below(300) < i {
						wantErrno(t, "Flush", x.Flush(), api.OK)
					}
					if n == 600 {
						s.Commit()
					}
				}
				slices.Sort(l)
				wantRows(t, x, l...)
				wantErrno(t, "Flush", x.Flush(), api.OK)
				y := sorter(t, s, "r", width, 4097-room)
				wantCounts(t, y, 0, x.Runs())
				wantRows(t, y, l...)
				if len(l)*width+edges <= body {
					rewrite(t, y, l...)
				}
			}
		}
	}
}

// TestOpened: P13.1 and P13.2, runs that were committed are those of a store that is opened anew, also behind a crash; what was not committed is not.
func TestOpened(t *testing.T) {
	d := newDisk(t, 100)
	s := opened(t, d)
	x := sorter(t, s, "r", 2, 2)
	put(t, x, "dd", "bb", "aa", "cc", "ee")
	wantErrno(t, "Commit", s.Commit(), api.OK)
	put(t, x, "ff", "gg")
	wantCounts(t, x, 1, 3)
	d.Fuse(1)
	wantErrno(t, "Commit", s.Commit(), api.ErrDown)
	wantNoRows(t, x, api.ErrDown)
	d.Back(0, 0)
	wantNoRows(t, x, api.ErrDown)
	s = opened(t, d)
	x = sorter(t, s, "r", 2, 2)
	wantCounts(t, x, 0, 2)
	wantRows(t, x, "aa", "bb", "cc", "dd")
	wantFiles(t, s, map[string]string{"r0": slowRun("bb", "dd"), "r1": slowRun("aa", "cc")})
	wantErrno(t, "Rewrite", x.Rewrite(lists([]string{"kk", "ll"})), api.OK)
	wantErrno(t, "Commit", s.Commit(), api.OK)
	x = sorter(t, opened(t, d), "r", 2, 2)
	wantCounts(t, x, 0, 1)
	wantRows(t, x, "kk", "ll")
}

// TestTwo: P13.1, two sorters of one store have files of their own, or, with one prefix, the same ones, each counting by itself.
func TestTwo(t *testing.T) {
	s := opened(t, newDisk(t, 100))
	x, y, z := sorter(t, s, "x", 1, 1), sorter(t, s, "y", 2, 1), sorter(t, s, "x", 1, 3)
	put(t, x, "b", "a", "c")
	put(t, y, "bb", "aa")
	put(t, z, "z")
	wantRows(t, x, "a", "b", "c")
	wantRows(t, y, "aa", "bb")
	wantRows(t, z, "z")
	wantCounts(t, z, 1, 0)
	wantErrno(t, "Flush", z.Flush(), api.OK) // over the first of x
	wantRows(t, x, "a", "c", "z")
	wantErrno(t, "Clear", z.Clear(), api.OK)
	wantCounts(t, x, 1, 2)
	wantNoRows(t, x, api.ErrName)
	wantFiles(t, s, map[string]string{"x1": slowRun("a"), "y0": slowRun("bb")})
}
