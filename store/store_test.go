package store

import (
	"math"
	"palmer/api"
	"palmer/manifest"
	"slices"
	"strings"
	"testing"
)

// TestExample: P10.1, the example of the chapter.
func TestExample(t *testing.T) {
	s := opened(t, newDisk(t, 40))
	wantErrno(t, "Write", s.Write("a", []byte("body")), api.OK)
	wantNames(t, s, "a")
	s.Forget()
	wantNames(t, s)
	wantNoRead(t, s, "a", api.ErrName)
	wantErrno(t, "Commit", s.Commit(), api.OK)
	wantNumbers(t, s, 0, 8)
}

// TestLimits: P10.1, the limits are those of the chapters.
func TestLimits(t *testing.T) {
	if api.Block != size || api.Slot != slot || api.Payload != room || api.MaxBody != most || api.MaxName != long || api.MaxBlocks != 65536 {
		t.Error("a limit is another")
	}
}

// wantNoOpen says that there is no store, and nothing beside the error.
func wantNoOpen(t *testing.T, s *Store, err, want api.Errno) {
	t.Helper()
	if s != nil || err != want {
		t.Fatalf("Open is %v and %d, not %d", s, err, want)
	}
}

// TestOpenDisk: P10.1 and P0.2, which disks have room for a store, and which are off; the room is looked at first.
func TestOpenDisk(t *testing.T) {
	s, err := Open(nil)
	wantNoOpen(t, s, err, api.ErrArg)
	for count := 1; count <= first; count++ {
		d := newDisk(t, count)
		s, err := Open(d)
		wantNoOpen(t, s, err, api.ErrArg)
		d.Off()
		s, err = Open(d)
		wantNoOpen(t, s, err, api.ErrArg)
	}
	for _, count := range []int{33, 34, 50, 65535, 65536} {
		d := newDisk(t, count)
		d.Off()
		s, err := Open(d)
		wantNoOpen(t, s, err, api.ErrDown)
		d.Back(0, 0)
		s = opened(t, d)
		wantNames(t, s)
		wantNumbers(t, s, 0, count-first)
	}
}

// TestOpenSlots: P10.1 and P0.2, slots that contain no manifest: an error, unless one of them is all zeros.
func TestOpenSlots(t *testing.T) {
	blank, other := make([]byte, slot*size), []byte(some(1, slot*size))
	good, err := manifest.Put(api.Manifest{Version: 3})
	wantErrno(t, "Put", err, api.OK)
	for _, l := range [][2][]byte{{blank, blank}, {blank, other}, {other, blank}, {good, other}, {other, good}, {blank, good}} {
		d := filled(t, slices.Concat(l[0], l[1], blank))
		s := opened(t, d)
		wantNames(t, s)
		want := uint64(0)
		if &l[0][0] == &good[0] || &l[1][0] == &good[0] {
			want = 3
		}
		wantNumbers(t, s, want, 16)
	}
	d := filled(t, slices.Concat(other, other, blank))
	s, err := Open(d)
	wantNoOpen(t, s, err, api.ErrCorrupt)
	wantImage(t, d, slices.Concat(other, other, blank))
	d.Off()
	s, err = Open(d)
	wantNoOpen(t, s, err, api.ErrDown)
}

// directory is a manifest of one file, which has two pages.
func directory(version uint64, l ...int) api.Manifest {
	return api.Manifest{Version: version, Next: 9, Files: []api.File{{Name: "a", Id: 3, Size: 200, Blocks: l}}}
}

// TestOpenBlocks: P10.1, P0.2 and P0.3, a manifest that names a block that does not exist; then nothing is written, as that is found first.
func TestOpenBlocks(t *testing.T) {
	for _, version := range []uint64{0, 1, 2, math.MaxUint64} {
		for _, l := range [][]int{{32, 40}, {40, 32}, {41, 39}, {39, 65535}, {40, 65535}} {
			d := newDisk(t, 40)
			wantErrno(t, "manifest.Write", manifest.Write(d, directory(version, l...)), api.OK)
			wantErrno(t, "Spoil", d.Spoil(0, 3, 1), api.OK)
			before := image(t, d)
			d.Fuse(0)
			s, err := Open(d)
			wantNoOpen(t, s, err, api.ErrRange)
			if !d.On() || d.Waiting() != 0 {
				t.Fatalf("version %d: the disk was written to", version)
			}
			wantImage(t, d, before)
			d.Off()
			s, err = Open(d)
			wantNoOpen(t, s, err, api.ErrDown)
		}
		d := newDisk(t, 40)
		wantErrno(t, "manifest.Write", manifest.Write(d, directory(version, 39, 32)), api.OK)
		s := opened(t, d)
		wantNames(t, s, "a")
		wantNumbers(t, s, version, 6)
		wantNoRead(t, s, "a", api.ErrCorrupt)
	}
}

// TestOpenZero: P10.1, with Version 0 nothing is written, whatever is in the slots, and though there are files.
func TestOpenZero(t *testing.T) {
	good, err := manifest.Put(directory(0, 33, 34))
	wantErrno(t, "Put", err, api.OK)
	blank, other := make([]byte, slot*size), []byte(some(1, slot*size))
	for _, l := range [][2][]byte{{blank, blank}, {blank, other}, {other, blank}, {good, other}, {other, good}, {good, blank}, {good, good}} {
		stored := slices.Concat(l[0], l[1], slowPage(3, 0, "x"), slowPage(3, 0, strings.Repeat("y", room)), slowPage(3, 1, strings.Repeat("z", 88)))
		d := filled(t, stored)
		wantErrno(t, "Write", d.Write(32, make([]byte, size)), api.OK)
		d.Fuse(0)
		s := opened(t, d)
		if !d.On() || d.Waiting() != 1 {
			t.Fatal("the disk was written to, or synced")
		}
		if len(s.Names()) == 1 {
			wantRead(t, s, "a", strings.Repeat("y", room)+strings.Repeat("z", 88))
		}
		d.Back(0, 0)
		wantImage(t, d, stored)
	}
}

// TestOpenWrites: P10.1, with another Version the manifest is written again, to both slots, in the order of its chapter: with a fuse at each operation.
func TestOpenWrites(t *testing.T) {
	for version := uint64(1); version < 4; version++ {
		m := directory(version, 33, 34)
		l := slotWrites(m)
		for lost := range 2 {
			stored := image(t, newDisk(t, 40))
			stored = after(stored, l, len(l), 0, 0)
			copy(stored[lost*slot*size:], some(2, slot*size)) // no manifest, and no padding
			for n := range slotOperations {
				for _, c := range crashes {
					d := filled(t, stored)
					d.Fuse(n)
					s, err := Open(d)
					wantNoOpen(t, s, err, api.ErrDown)
					d.Back(c.keep, c.torn)
					wantImage(t, d, after(stored, l, n, c.keep, c.torn))
				}
			}
			d := filled(t, stored)
			d.Fuse(slotOperations)
			s := opened(t, d)
			if !d.On() || d.Waiting() != 0 {
				t.Fatal("there were other operations")
			}
			wantImage(t, d, after(stored, l, slotOperations, 0, 0))
			wantNumbers(t, s, version, 6)
			d.Fuse(0)
			wantErrno(t, "Remove", s.Remove("a"), api.OK)
			wantErrno(t, "Commit", s.Commit(), api.ErrDown) // the fuse is not used up by calls that do not write
		}
	}
}

// TestNil: P10.1 and P0.1, a nil store.
func TestNil(t *testing.T) {
	var s *Store
	s.Forget()
	wantNames(t, s)
	wantNumbers(t, s, 0, 0)
	for _, name := range []string{"", "a", strings.Repeat("x", long+1)} {
		wantNoRead(t, s, name, api.ErrDown)
		wantErrno(t, "Write", s.Write(name, make([]byte, most+1)), api.ErrDown)
		wantErrno(t, "Append", s.Append(name, make([]byte, most+1)), api.ErrDown)
		wantErrno(t, "Write", s.Write(name, nil), api.ErrDown)
		wantErrno(t, "Append", s.Append(name, nil), api.ErrDown)
		wantErrno(t, "Remove", s.Remove(name), api.ErrDown)
	}
	wantErrno(t, "Commit", s.Commit(), api.ErrDown)
}

// TestOff: P10.1, P0.2 and P0.3, a store whose disk is off: that comes first, and nothing is changed; when the disk is on again, all is as before.
func TestOff(t *testing.T) {
	x := newBoth(t, 40)
	x.write(t, "a", some(1, 200))
	x.write(t, "b", "old")
	x.commit(t)
	x.write(t, "b", "new")
	x.remove(t, "a")
	x.d.Off()
	for _, name := range []string{"", "a", "b", "none", strings.Repeat("x", long+1)} {
		wantNoRead(t, x.s, name, api.ErrDown)
		for _, n := range []int{0, 1, most + 1} {
			wantErrno(t, "Write", x.s.Write(name, make([]byte, n)), api.ErrDown)
			wantErrno(t, "Append", x.s.Append(name, make([]byte, n)), api.ErrDown)
		}
		wantErrno(t, "Remove", x.s.Remove(name), api.ErrDown)
	}
	wantErrno(t, "Commit", x.s.Commit(), api.ErrDown)
	wantErrno(t, "Commit", x.s.Commit(), api.ErrDown)
	wantNames(t, x.s, "b")
	wantNumbers(t, x.s, 1, 5)
	x.d.Back(all, all)
	x.want(t)
	x.commit(t)
	wantNumbers(t, x.s, 2, 7)
	x.d.Off()
	wantErrno(t, "Commit without changes", x.s.Commit(), api.ErrDown)
	x.d.Back(0, 0)
	x.write(t, "c", "x")
	x.d.Off()
	wantErrno(t, "a Commit that would succeed", x.s.Commit(), api.ErrDown)
	x.forget()
	wantNames(t, x.s, "b")
	x.d.Back(0, 0)
	x.want(t)
}

// TestTwoStores: P0.6, two stores on one disk: each keeps its manifest, and reads what the other wrote.
func TestTwoStores(t *testing.T) {
	d := newDisk(t, 40)
	a, z := opened(t, d), opened(t, d)
	wantErrno(t, "Write", a.Write("a", []byte("one")), api.OK)
	wantNames(t, z)
	wantErrno(t, "Commit", a.Commit(), api.OK)
	wantNames(t, z)
	wantNumbers(t, a, 1, 7)
	wantNumbers(t, z, 0, 8)
	wantNoRead(t, z, "a", api.ErrName)
	third := opened(t, d)
	wantRead(t, third, "a", "one")
	wantErrno(t, "Write", z.Write("z", []byte("two")), api.OK)
	wantErrno(t, "Commit", z.Commit(), api.OK)
	wantNumbers(t, z, 1, 7)
	wantNames(t, a, "a")
	wantRead(t, a, "a", "two") // the same block, the same Id: the page is valid
	wantNames(t, opened(t, d), "z")
	wantErrno(t, "Write", third.Write("a", []byte("new")), api.OK)
	wantErrno(t, "Commit", third.Commit(), api.OK)
	wantNumbers(t, third, 2, 7)
	wantNames(t, opened(t, d), "a")
	wantRead(t, opened(t, d), "a", "new")
}

// TestTwoDisks: P0.6, stores on two disks have nothing in common.
func TestTwoDisks(t *testing.T) {
	a, z := newBoth(t, 40), newBoth(t, 50)
	a.write(t, "x", "one")
	z.write(t, "x", "two")
	a.commit(t)
	z.want(t)
	z.remove(t, "x")
	z.commit(t)
	a.want(t)
	a.d.Off()
	z.want(t)
	z.write(t, "y", some(1, 500))
	z.commit(t)
	a.d.Back(0, 0)
	a.want(t)
}
