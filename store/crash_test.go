package store

import (
	"maps"
	"palmer/api"
	"palmer/manifest"
	"strconv"
	"strings"
	"testing"
)

// scene is a store with files that are committed, and with changes.
type scene struct {
	name  string
	count int
	old   map[string]string
	next  map[string]string // what is changed; removed where the contents are "-"
}

// scenes are commits of each shape: of a blank disk, with files that stay, without pages, with more pages than a number has bits, and with manifests of many blocks.
func scenes() []scene {
	many, other := map[string]string{}, map[string]string{}
	for i := range 30 {
		name := strings.Repeat(strconv.Itoa(10+i), 10)
		many[name] = some(uint64(i), i%3)
		if i%2 == 0 {
			other[name] = "-"
		} else {
			other[name+"new"] = some(uint64(i), i)
		}
	}
	return []scene{
		{"blank", 40, nil, map[string]string{"a": some(1, 300), "b": "", "c": "one"}},
		{"mixed", 50, map[string]string{"a": some(1, 300), "b": "one", "c": "stays", "d": ""}, map[string]string{"a": some(2, 113), "b": "-", "d": "more", "e": some(3, 112)}},
		{"removed", 40, map[string]string{"a": some(1, 300), "b": "one"}, map[string]string{"a": "-"}},
		{"same", 40, map[string]string{"a": some(1, 200)}, map[string]string{"a": some(1, 200)}},
		{"long", 210, map[string]string{"a": some(1, 80*room), "b": "stays"}, map[string]string{"a": some(2, 80*room-1)}},
		{"many", 110, many, other},
	}
}

// apply records changes.
func (x *both) apply(t *testing.T, changes map[string]string) {
	t.Helper()
	for name, body := range changes {
		if body == "-" {
			x.remove(t, name)
		} else {
			x.write(t, name, body)
		}
	}
}

// committed is a disk on which the old files of a scene are committed.
func (c scene) committed(t *testing.T) *both {
	t.Helper()
	x := newBoth(t, c.count)
	x.apply(t, c.old)
	x.commit(t)
	return x
}

// then are the files of a scene behind its commit.
func (c scene) then() map[string]string {
	m := maps.Clone(c.old)
	if m == nil {
		m = map[string]string{}
	}
	maps.Copy(m, c.next)
	maps.DeleteFunc(m, func(_, body string) bool { return body == "-" })
	return m
}

// wantScene: P10.2, the files are those behind a commit, or those before it; returned is whether they are those behind it.
func (c scene) wantScene(t *testing.T, s *Store, old uint64) bool {
	t.Helper()
	switch s.Version() {
	case old:
		wantFiles(t, s, c.old)
		return false
	case old + 1:
		wantFiles(t, s, c.then())
		return true
	}
	t.Fatalf("%s: Version is %d", c.name, s.Version())
	return false
}

// TestCrash: P10.2, the power fails at each operation of a commit: all files are as before, or as behind it; as before while the manifest is not being written, and as behind when one slot is synced.
func TestCrash(t *testing.T) {
	for _, c := range scenes() {
		x := c.committed(t)
		x.apply(t, c.next)
		next, l, ok := x.m.plan()
		if !ok {
			t.Fatalf("%s: the commit is impossible", c.name)
		}
		pages := len(l) - slotOperations // and their sync
		old := x.m.m.Version
		for n := range l {
			if c.name == "long" && n > 3 && n < pages-3 && n%16 > 1 {
				continue
			}
			for _, k := range crashes {
				y := x.again(t)
				y.apply(t, c.next)
				y.fail(t, l, n, k)
				s := opened(t, y.d)
				done := c.wantScene(t, s, old)
				lost, kept := k == crash{}, k == crash{all, 0}
				if done && (n <= pages || n <= pages+slot && lost) || !done && (n > pages+slot || n == pages+slot && kept) {
					t.Fatalf("%s: %d operations, with %x and %x: done is %v", c.name, n, k.keep, k.torn, done)
				}
				m := x.m.m
				if done {
					m = next
				}
				after := slow{x.m.image, m, nil}
				wantNumbers(t, s, m.Version, len(after.free()))
			}
		}
	}
}

// TestCrashOpen: P10.2, the power fails at each operation of the Open behind a crash in a commit: the next Open has the same files as the first one would have had, and so has one more behind a crash in that.
func TestCrashOpen(t *testing.T) {
	second := []crash{{0, 0}, {all, 0}, {0, all}, {0xaaaa, 0x5555}}
	for _, c := range scenes()[:3] {
		x := c.committed(t)
		x.apply(t, c.next)
		_, l, _ := x.m.plan()
		pages := len(l) - slotOperations
		for n := max(0, pages-1); n < len(l); n += 3 {
			for _, k := range crashes[:10] {
				stored := after(x.m.image, l, n, k.keep, k.torn)
				done := c.wantScene(t, opened(t, filled(t, stored)), x.m.m.Version)
				for i := range slotOperations + 1 {
					d := filled(t, stored)
					for _, z := range second[i%2*2:][:2] {
						d.Fuse(i)
						Open(d) // there may be nothing to write
						d.Back(z.keep, z.torn)
					}
					if c.wantScene(t, opened(t, d), x.m.m.Version) != done {
						t.Fatalf("%s: %d operations, with %x and %x: done was %v", c.name, n, k.keep, k.torn, done)
					}
				}
			}
		}
	}
}

// TestCrashMany: P10.2, the whole of a scene where the manifests have many blocks: a crash in a commit, one in the Open, and then the commit again, with a crash in that.
func TestCrashMany(t *testing.T) {
	c := scenes()[5]
	x := c.committed(t)
	x.apply(t, c.next)
	_, l, _ := x.m.plan()
	pages := len(l) - slotOperations
	d := &dice{7}
	for n := pages; n < len(l); n++ {
		for range 20 {
			y := filled(t, after(x.m.image, l, n, d.wide(), d.wide()))
			done := c.wantScene(t, opened(t, y), 1)
			y.Fuse(d.below(slotOperations))
			Open(y)
			y.Back(d.wide(), d.wide())
			z := openedBoth(t, y)
			if c.wantScene(t, z.s, 1) != done {
				t.Fatalf("%d operations: done was %v", n, done)
			}
			z.want(t)
			z.write(t, "last", some(d.wide()>>40, 500))
			_, again, _ := z.m.plan()
			before := files(t, z.s)
			z.fail(t, again, d.below(len(again)), crash{d.wide(), d.wide()})
			s := opened(t, z.d)
			if s.Version() == z.m.m.Version {
				delete(before, "last")
			}
			wantFiles(t, s, before)
		}
	}
}

// TestCrashContinue: P10.2, behind a crash at each operation, and an Open, a store works as any other: the same changes can be made again.
func TestCrashContinue(t *testing.T) {
	for _, c := range scenes()[:4] {
		x := c.committed(t)
		x.apply(t, c.next)
		_, l, _ := x.m.plan()
		for n := range l {
			for _, k := range crashes[:5] {
				y := openedBoth(t, filled(t, after(x.m.image, l, n, k.keep, k.torn)))
				if !c.wantScene(t, y.s, x.m.m.Version) {
					y.apply(t, c.next)
					y.commit(t)
				}
				c.wantScene(t, y.s, x.m.m.Version)
				wantFiles(t, y.again(t).s, c.then())
			}
		}
	}
}

// TestBroken: P10.1 and P0.3, behind an error of the disk in a Commit, all is ErrDown forever, before anything else is checked, though the disk is back; what can be asked still is as before the Commit.
func TestBroken(t *testing.T) {
	for _, c := range scenes()[:4] {
		x := c.committed(t)
		x.apply(t, c.next)
		_, l, _ := x.m.plan()
		for n := range l {
			y := x.again(t)
			y.apply(t, c.next)
			y.d.Fuse(n)
			for range 2 {
				y.wantDown(t, c)
				y.d.Back(all, 0)
			}
			y.wantDown(t, c)
			before := image(t, y.d)
			y.s.Forget()
			wantNames(t, y.s, (&slow{y.m.image, y.m.m, nil}).names()...)
			wantErrno(t, "Commit without changes", y.s.Commit(), api.ErrDown)
			wantNoRead(t, y.s, "a", api.ErrDown)
			y.d.Off()
			y.d.Back(0, 0)
			wantErrno(t, "Write", y.s.Write("a", nil), api.ErrDown)
			wantImage(t, y.d, before)
			c.wantScene(t, opened(t, y.d), x.m.m.Version)
		}
	}
}

// wantDown: P10.1 and P0.2, whatever is called is ErrDown, and nothing is changed.
func (x *both) wantDown(t *testing.T, c scene) {
	t.Helper()
	wantErrno(t, "Commit", x.s.Commit(), api.ErrDown)
	for _, name := range []string{"", "a", "b", "none", strings.Repeat("x", long+1)} {
		wantNoRead(t, x.s, name, api.ErrDown)
		for _, n := range []int{0, 1, most + 1} {
			wantErrno(t, "Write", x.s.Write(name, make([]byte, n)), api.ErrDown)
			wantErrno(t, "Append", x.s.Append(name, make([]byte, n)), api.ErrDown)
		}
		wantErrno(t, "Remove", x.s.Remove(name), api.ErrDown)
	}
	wantNames(t, x.s, x.m.names()...)
	wantNumbers(t, x.s, x.m.m.Version, len(x.m.free()))
	if x.d.Waiting() != 0 && x.d.On() {
		t.Fatalf("%s: %d writes are pending", c.name, x.d.Waiting())
	}
}

// TestSpoil: P10.3, each byte of each page of a file, changed alone: that file is not read, by whatever store, and the others are read as they were.
func TestSpoil(t *testing.T) {
	x := newBoth(t, 60)
	x.write(t, "a", some(1, 113))
	x.write(t, "b", some(2, 300))
	x.write(t, "c", some(3, 112))
	x.write(t, "d", "")
	x.commit(t)
	for i, name := range map[int]string{32: "a", 33: "a", 34: "b", 35: "b", 36: "b", 37: "c"} {
		for at := range size {
			for _, by := range []byte{1, 0x80, 0xff} {
				x.spoil(t, i, at, by)
				wantNoRead(t, x.s, name, api.ErrCorrupt)
				for _, other := range []string{"a", "b", "c", "d"} {
					if body, err := x.m.read(other); other != name {
						wantErrno(t, "the other", err, api.OK)
						wantRead(t, x.s, other, body)
					}
				}
				if at%16 == 0 {
					wantNoRead(t, opened(t, x.d), name, api.ErrCorrupt)
				}
				x.spoil(t, i, at, by)
			}
		}
		x.want(t)
	}
	x.spoil(t, 38, 5, 1) // of no file
	x.want(t)
}

// TestSpoilCommit: P10.3, a file that is corrupted stays so when others are committed, and is read again when it is written anew.
func TestSpoilCommit(t *testing.T) {
	x := newBoth(t, 60)
	x.write(t, "a", some(1, 300))
	x.write(t, "b", "one")
	x.commit(t)
	x.spoil(t, 32, 50, 4)
	x.write(t, "b", "two")
	x.commit(t)
	wantNoRead(t, x.s, "a", api.ErrCorrupt)
	x.write(t, "a", "new")
	wantRead(t, x.s, "a", "new")
	x.commit(t)
	wantRead(t, x.s, "a", "new")
	wantNumbers(t, x.s, 3, 26)
}

// TestOtherPages: P10.3, pages that are valid, but not those of the file: of another Id, in another order, of an earlier version, or with another number of bytes.
func TestOtherPages(t *testing.T) {
	part := some(1, 3*room)
	good := [3][]byte{slowPage(4, 0, part[:room]), slowPage(4, 1, part[:room]), slowPage(4, 2, part[:50])}
	for i := -1; i < 3; i++ {
		other := [][]byte{
			slowPage(5, uint32(i), part[:room]), slowPage(3, uint32(i), part[:room]), slowPage(4, uint32(i+1), part[:room]), slowPage(4, uint32(i-1), part[:room]),
			slowPage(4, uint32(i), part[:49]), slowPage(4, uint32(i), part[:51]), slowPage(4, uint32(i), part[:room-1]), slowPage(4, uint32(i), ""), make([]byte, size),
		}
		for _, page := range other {
			l := good
			if i >= 0 {
				l[i] = page
			}
			d := newDisk(t, 40)
			m := api.Manifest{Version: 2, Next: 9, Files: []api.File{{Name: "a", Id: 4, Size: 2*room + 50, Blocks: []int{39, 32, 35}}}}
			wantErrno(t, "manifest.Write", manifest.Write(d, m), api.OK)
			for k, at := range m.Files[0].Blocks {
				wantErrno(t, "Write of a block", d.Write(at, l[k]), api.OK)
			}
			if s := opened(t, d); i < 0 {
				wantRead(t, s, "a", part[:room]+part[:room]+part[:50])
			} else {
				wantNoRead(t, s, "a", api.ErrCorrupt)
			}
		}
	}
}
