package store

import (
	"bytes"
	"maps"
	"math"
	"palmer/api"
	"palmer/manifest"
	"slices"
	"strconv"
	"strings"
	"testing"
)

// spoil changes a byte of a block, as it is stored permanently.
func (x *both) spoil(t *testing.T, i, at int, by byte) {
	t.Helper()
	wantErrno(t, "Spoil", x.d.Spoil(i, at, by), api.OK)
	x.m.image[i*size+at] ^= by
}

// wantManifest says what is written in both slots.
func wantManifest(t *testing.T, x *both, version uint64, next uint32, l ...api.File) {
	t.Helper()
	b, err := manifest.Put(api.Manifest{Version: version, Next: next, Files: l})
	wantErrno(t, "Put", err, api.OK)
	if now := image(t, x.d); !bytes.Equal(now[:slot*size], b) || !bytes.Equal(now[slot*size:][:slot*size], b) {
		t.Fatalf("the slots do not contain %v", l)
	}
}

// TestCommitPlaces: P10.1, which Ids the files get, and which blocks: the lowest that the manifest does not assign, those of files that change are not free yet.
func TestCommitPlaces(t *testing.T) {
	x := newBoth(t, 60)
	x.write(t, "c", some(3, 113))
	x.write(t, "a", some(1, 224))
	x.write(t, "b", "")
	x.write(t, "\xff", "x")
	x.commit(t)
	a := api.File{Name: "a", Id: 0, Size: 224, Blocks: []int{32, 33}}
	b := api.File{Name: "b", Id: 1}
	c := api.File{Name: "c", Id: 2, Size: 113, Blocks: []int{34, 35}}
	z := api.File{Name: "\xff", Id: 3, Size: 1, Blocks: []int{36}}
	wantManifest(t, x, 1, 4, a, b, c, z)
	x.write(t, "a", some(1, 224)) // the contents that were committed
	x.append(t, "b", "y")
	x.commit(t)
	a = api.File{Name: "a", Id: 4, Size: 224, Blocks: []int{37, 38}}
	b = api.File{Name: "b", Id: 5, Size: 1, Blocks: []int{39}}
	wantManifest(t, x, 2, 6, a, b, c, z)
	wantNumbers(t, x.s, 2, 22)
	x.write(t, "d", some(4, 300))
	x.remove(t, "c")
	x.commit(t)
	d := api.File{Name: "d", Id: 6, Size: 300, Blocks: []int{32, 33, 40}}
	wantManifest(t, x, 3, 7, a, b, d, z)
	x.remove(t, "d")
	x.commit(t)
	wantManifest(t, x, 4, 7, a, b, z)
	x.write(t, "A", some(5, 500))
	x.write(t, "\xff", "")
	x.commit(t)
	wantManifest(t, x, 5, 9, api.File{Name: "A", Id: 7, Size: 500, Blocks: []int{32, 33, 34, 35, 40}}, a, b, api.File{Name: "\xff", Id: 8})
	x.again(t).want(t)
}

// TestCommitKnown: P10.1, the first bytes of blocks that a commit writes, as the chapters on pages and on manifests tell them.
func TestCommitKnown(t *testing.T) {
	d := newDisk(t, 40)
	s := opened(t, d)
	wantErrno(t, "Write", s.Write("b", bytes.Repeat([]byte("x"), 114)), api.OK)
	wantErrno(t, "Write", s.Write("a", []byte("one")), api.OK)
	wantErrno(t, "Commit", s.Commit(), api.OK)
	slotStart := "M\x0d\x00\x00\x00"
	body := "\x01\x02\x02\x01a\x00\x03\x20\x01b\x01\x72\x21\x22"
	for i, want := range map[int]string{
		32: "\x00\x00\x00\x00\x00\x00\x00\x00\x03\x00\x00\x00one\x00",
		33: "\x01\x00\x00\x00\x00\x00\x00\x00\x70\x00\x00\x00xxx",
		34: "\x01\x00\x00\x00\x01\x00\x00\x00\x02\x00\x00\x00xx\x00",
	} {
		b, err := d.Read(i)
		if err != api.OK || !strings.HasPrefix(string(b), want) {
			t.Errorf("block %d is %q and %d", i, b, err)
		}
	}
	for _, i := range []int{0, 16} {
		b, err := d.Read(i)
		if err != api.OK || b[0] != slotStart[0] || int(b[1]) != len(body) || string(b[9:9+len(body)]) != body {
			t.Errorf("block %d is %q and %d", i, b, err)
		}
	}
}

// TestCommitNothing: P10.1, a Commit without changes does nothing, and leaves the Version.
func TestCommitNothing(t *testing.T) {
	x := newBoth(t, 60)
	for range 2 {
		version := x.s.Version()
		x.d.Fuse(0)
		wantErrno(t, "Commit", x.s.Commit(), api.OK)
		x.write(t, "a", "other")
		x.remove(t, "a")
		x.append(t, "b", "more")
		x.forget()
		wantErrno(t, "Commit behind a Forget", x.s.Commit(), api.OK)
		wantErrno(t, "Remove", x.s.Remove("c"), api.ErrName)
		wantErrno(t, "Commit behind an error", x.s.Commit(), api.OK)
		x.want(t)
		if x.s.Version() != version {
			t.Fatalf("Version is %d, not %d", x.s.Version(), version)
		}
		x.d.Fuse(-1)
		x.write(t, "a", "x")
		x.commit(t)
	}
}

// TestCommitSame: P10.1, changes that come to what was committed are changes.
func TestCommitSame(t *testing.T) {
	x := newBoth(t, 60)
	x.write(t, "a", some(1, 200))
	x.commit(t)
	x.write(t, "a", "other")
	x.write(t, "a", some(1, 200))
	x.commit(t)
	wantManifest(t, x, 2, 2, api.File{Name: "a", Id: 1, Size: 200, Blocks: []int{34, 35}})
	x.append(t, "a", "")
	x.commit(t)
	wantManifest(t, x, 3, 3, api.File{Name: "a", Id: 2, Size: 200, Blocks: []int{32, 33}})
	x.write(t, "none", "")
	x.remove(t, "none")
	x.commit(t)
	wantManifest(t, x, 4, 3, api.File{Name: "a", Id: 2, Size: 200, Blocks: []int{32, 33}})
	x.remove(t, "a")
	x.write(t, "a", some(1, 200))
	x.commit(t)
	wantManifest(t, x, 5, 4, api.File{Name: "a", Id: 3, Size: 200, Blocks: []int{34, 35}})
	x.remove(t, "a")
	x.commit(t)
	wantManifest(t, x, 6, 4)
	wantNumbers(t, x.s, 6, 28)
}

// TestCommitOrder: P10.1 and P0.6, the operations of a commit in their order, with a fuse at each: however the changes came, and in whatever order a map has them.
func TestCommitOrder(t *testing.T) {
	l := []string{"d", "b", "\x80", "a", "e", "ca", "c", "0", "~", "\x01", "cab", "zz"}
	operations := 1
	for n := 0; n < operations; n++ {
		x := newBoth(t, 60)
		slices.Reverse(l)
		for i := range l {
			name := l[(i+n)%len(l)]
			x.write(t, name, some(uint64(len(name)), 40*len(name)*int(name[0]%8)))
			x.append(t, name, name)
		}
		_, want, ok := x.m.plan()
		if !ok || len(want) < len(l)+8+slotOperations {
			t.Fatalf("a commit has %d operations", len(want))
		}
		operations = len(want)
		x.fail(t, want, n, crash{all, 0})
	}
}

// TestRoom: P10.1 and P0.3, a disk with room for just as many pages, and for one less: ErrFull, with nothing changed; a Commit with fewer changes succeeds behind it.
func TestRoom(t *testing.T) {
	for spare := range 3 {
		x := newBoth(t, 42+spare)
		x.write(t, "a", some(1, 3*room))
		x.write(t, "b", some(2, 2*room+1))
		x.commit(t)
		wantNumbers(t, x.s, 1, 4+spare)
		x.write(t, "a", some(3, (3+spare)*room)) // its own blocks are not free yet
		x.write(t, "c", "x")
		x.write(t, "d", "y")
		x.remove(t, "b") // nor are these
		for range 2 {
			x.d.Fuse(0)
			wantErrno(t, "Commit", x.s.Commit(), api.ErrFull)
			x.want(t)
			x.d.Fuse(-1)
		}
		wantNames(t, x.s, "a", "c", "d")
		x.remove(t, "d")
		x.commit(t)
		wantNames(t, x.s, "a", "c")
		wantNumbers(t, x.s, 2, 10+spare-4-spare)
		x.again(t).want(t)
	}
}

// TestRoomOne: P10.1, the smallest disk, and files without pages, which need no room.
func TestRoomOne(t *testing.T) {
	x := newBoth(t, 33)
	x.write(t, "a", some(1, room+1))
	x.commit(t)
	wantNumbers(t, x.s, 0, 1)
	x.write(t, "a", some(1, room))
	x.commit(t)
	wantNumbers(t, x.s, 1, 0)
	x.write(t, "b", "")
	x.commit(t)
	wantNumbers(t, x.s, 2, 0)
	x.append(t, "a", "")
	x.commit(t)
	wantErrno(t, "Commit", x.s.Commit(), api.ErrFull)
	x.forget()
	x.remove(t, "a")
	x.commit(t)
	x.write(t, "c", "x")
	x.commit(t)
	wantNumbers(t, x.s, 4, 0)
	wantNames(t, x.s, "b", "c")
}

// crowd are names whose files, without contents, need as many bytes of a slot as there are, or some more.
func crowd(more int) []string {
	var l []string
	for i := range 57 {
		l = append(l, strings.Repeat("x", 30)+strconv.Itoa(10+i)) // 35 bytes with the length, the Id and the Size
	}
	return append(l, strings.Repeat("y", 15), strings.Repeat("z", 16+more)) // 18 and 19, behind 16 of the section
}

// TestSlotFull: P10.1 and P0.3, a manifest that just fits into a slot, and one that needs one byte more: then the changes stay pending, and fewer of them are committed.
func TestSlotFull(t *testing.T) {
	x := newBoth(t, 60)
	for _, name := range crowd(0) {
		x.write(t, name, "")
	}
	x.commit(t)
	wantNumbers(t, x.s, 1, 28)
	for i := range 2 {
		x = newBoth(t, 60)
		l := crowd(1)
		for _, name := range l {
			x.write(t, name, "")
		}
		x.d.Fuse(0)
		wantErrno(t, "Commit", x.s.Commit(), api.ErrFull)
		x.want(t)
		x.d.Fuse(-1)
		x.remove(t, l[30*i])
		x.commit(t)
		wantNumbers(t, x.s, 1, 28)
		wantNames(t, x.s, slices.Delete(l, 30*i, 30*i+1)...)
		x.again(t).want(t)
	}
}

// TestSlotBlocks: P10.1, the blocks need room in a slot too: as many as there is room for, and one more.
func TestSlotBlocks(t *testing.T) {
	x := newBoth(t, 65536)
	fits := func(n int) bool {
		x.forget()
		x.write(t, "a", some(1, n*room))
		_, _, ok := x.m.plan()
		return ok
	}
	n := 900
	for fits(n + 1) {
		n++
	}
	if n < 1000 || n > 1100 { // 96 blocks with one byte each, the others with two
		t.Fatalf("%d blocks fit", n)
	}
	fits(n + 1)
	wantErrno(t, "Commit", x.s.Commit(), api.ErrFull)
	wantNumbers(t, x.s, 0, 65504)
	fits(n)
	x.commit(t)
	wantNumbers(t, x.s, 1, 65504-n)
}

// fromManifest is a store on a disk whose manifest was written by itself.
func fromManifest(t *testing.T, m api.Manifest) *both {
	t.Helper()
	d := newDisk(t, 60)
	wantErrno(t, "manifest.Write", manifest.Write(d, m), api.OK)
	return openedBoth(t, d)
}

// wantFull: P10.1 and P0.3, a Commit that is not possible, and uses no operation.
func (x *both) wantFull(t *testing.T) {
	t.Helper()
	if _, _, ok := x.m.plan(); ok {
		t.Fatal("the commit is possible by the chapter")
	}
	x.d.Fuse(0)
	wantErrno(t, "Commit", x.s.Commit(), api.ErrFull)
	x.want(t)
	x.d.Fuse(-1)
}

// TestVersionMost: P10.1, the greatest Version is not exceeded.
func TestVersionMost(t *testing.T) {
	x := fromManifest(t, api.Manifest{Version: math.MaxUint64 - 1})
	x.write(t, "a", some(1, 300))
	x.commit(t)
	wantNumbers(t, x.s, math.MaxUint64, 25)
	wantErrno(t, "Commit without changes", x.s.Commit(), api.OK)
	x.write(t, "a", "x")
	x.wantFull(t)
	x.remove(t, "a")
	x.wantFull(t)
	x.forget()
	x.remove(t, "a")
	x.wantFull(t)
	x.forget()
	wantErrno(t, "Commit without changes", x.s.Commit(), api.OK)
	x.again(t).want(t)
}

// TestNextMost: P10.1, the greatest Next is not exceeded; what needs no Id is committed still.
func TestNextMost(t *testing.T) {
	x := fromManifest(t, api.Manifest{Version: 5, Next: math.MaxUint32 - 2})
	for _, name := range []string{"a", "b", "c"} {
		x.write(t, name, name)
	}
	x.wantFull(t)
	x.remove(t, "b")
	x.commit(t)
	wantManifest(t, x, 6, math.MaxUint32, api.File{Name: "a", Id: math.MaxUint32 - 2, Size: 1, Blocks: []int{32}}, api.File{Name: "c", Id: math.MaxUint32 - 1, Size: 1, Blocks: []int{33}})
	x.again(t).want(t)
	x.write(t, "a", "")
	x.wantFull(t)
	x.remove(t, "a")
	x.commit(t)
	wantManifest(t, x, 7, math.MaxUint32, api.File{Name: "c", Id: math.MaxUint32 - 1, Size: 1, Blocks: []int{33}})
	x.append(t, "c", "")
	x.wantFull(t)
}

// TestZeroVersion: P10.1, a manifest of Version 0 with files is that of a store too.
func TestZeroVersion(t *testing.T) {
	x := fromManifest(t, api.Manifest{Next: 7, Files: []api.File{{Name: "a", Id: 6}, {Name: "b", Id: 2, Size: 5, Blocks: []int{59}}}})
	wantNames(t, x.s, "a", "b")
	wantNumbers(t, x.s, 0, 27)
	x.write(t, "a", "x")
	x.commit(t)
	wantManifest(t, x, 1, 8, api.File{Name: "a", Id: 7, Size: 1, Blocks: []int{32}}, api.File{Name: "b", Id: 2, Size: 5, Blocks: []int{59}})
}

// TestPending: P10.1, what else was pending on the disk is completed by a commit's first sync; a commit's own pages are pending until then.
func TestPending(t *testing.T) {
	for n := range 5 {
		x := newBoth(t, 60)
		wantErrno(t, "Write of a block", x.d.Write(59, []byte(some(9, size))), api.OK)
		x.write(t, "a", some(1, 300))
		_, l, _ := x.m.plan()
		l = append([]operation{{59, []byte(some(9, size))}}, l...)
		x.d.Fuse(n)
		wantErrno(t, "Commit", x.s.Commit(), api.ErrDown)
		x.d.Back(0, 0)
		wantImage(t, x.d, after(x.m.image, l, n+1, 0, 0))
	}
}

// TestSequence: P10.1 and P10.2, many calls in any order, with crashes at any operation and spoilt bytes, against the specification.
func TestSequence(t *testing.T) {
	x := &dice{n: 1 << 40}
	seen := map[string]int{}
	for range 60 {
		y := newBoth(t, 33+x.below(40))
		for range 80 {
			y = y.step(t, x, seen)
			y.want(t)
		}
	}
	for _, what := range []string{"committed", "full", "crashed", "spoilt", "opened"} {
		if seen[what] < 50 {
			t.Errorf("%s: %d times", what, seen[what])
		}
	}
}

// step is one call, or a crash in a commit, with the same by the chapter.
func (x *both) step(t *testing.T, d *dice, seen map[string]int) *both {
	t.Helper()
	names := []string{"a", "b", "c", "\x80\xff", strings.Repeat("n", 32), "d", "e", "", strings.Repeat("n", 33)}
	name, body := names[d.below(len(names))], some(d.wide()>>40, d.below(400))
	switch d.below(12) {
	case 0, 1, 2:
		x.write(t, name, body)
	case 3, 4:
		x.append(t, name, body)
	case 5:
		x.remove(t, name)
	case 6, 7, 8:
		_, _, ok := x.m.plan()
		seen[map[bool]string{true: "committed", false: "full"}[ok]]++
		x.commit(t)
	case 9:
		x.forget()
	case 10:
		seen["spoilt"]++
		x.spoil(t, first+d.below(len(x.m.image)/size-first), d.below(size), byte(1<<d.below(8)))
	case 11:
		_, l, ok := x.m.plan()
		if ok && len(x.m.changes) > 0 {
			seen["crashed"]++
			x.fail(t, l, d.below(len(l)), crash{d.wide() | d.wide(), d.wide()})
		}
		seen["opened"]++
		return openedBoth(t, x.d)
	}
	return x
}

// files are the names and contents that a store has.
func files(t *testing.T, s *Store) map[string]string {
	t.Helper()
	m := map[string]string{}
	for _, name := range s.Names() {
		b, err := s.Read(name)
		wantErrno(t, "Read", err, api.OK)
		m[name] = string(b)
	}
	return m
}

// wantFiles says which names and contents a store has.
func wantFiles(t *testing.T, s *Store, want map[string]string) {
	t.Helper()
	if m := files(t, s); !maps.Equal(m, want) {
		t.Fatalf("the files are %q, not %q", m, want)
	}
}
