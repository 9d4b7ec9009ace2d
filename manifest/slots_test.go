package manifest

import (
	"bytes"
	"math"
	"palmer/api"
	"palmer/disk"
	"slices"
	"testing"
)

const (
	all        = math.MaxUint64 // as a number whose bits are writes
	operations = 2 * (slot + 1) // of a Write: the blocks of each slot, and a sync
)

// crash is what tells which pending writes survive, and which are torn.
type crash struct{ keep, torn uint64 }

var crashes = []crash{
	{0, 0}, {all, 0}, {0, all}, {all, all}, {1, 0}, {2, 0}, {1 << 15, 0}, {1, all}, {0x5555, 0}, {0xaaaa, 0}, {0x5555, 0xaaaa}, {0xaaaa, 0x5555},
	{0xff, 0}, {0xff00, 0}, {0xfffe, 0}, {0x7fff, 0}, {0x7fff, 0x8000}, {0xfffe, 1}, {0, 1}, {0, 1 << 15}, {0xf0f0, 0x3c3c}, {0x7ffe, 0},
}

// old is what a disk holds before all: no byte of it is zero, and no two blocks are alike.
func old(count int) []byte {
	return someBytes(count * size)
}

// filled is a disk that holds bytes permanently, from its first block on.
func filled(t *testing.T, count int, b []byte) *disk.Disk {
	t.Helper()
	d := newDisk(t, count)
	i := 0
	for block := range slices.Chunk(b, size) {
		if err := d.Write(i, block); err != api.OK {
			t.Fatalf("block %d is not written: error %d", i, err)
		}
		i++
	}
	if err := d.Sync(); err != api.OK {
		t.Fatalf("Sync is error %d", err)
	}
	return d
}

// written is a disk on which manifests were written completely, one after the other.
func written(t *testing.T, l ...api.Manifest) *disk.Disk {
	t.Helper()
	d := newDisk(t, 40)
	for _, m := range l {
		wantWritten(t, d, m)
	}
	return d
}

// wantWritten writes a manifest that is to be written.
func wantWritten(t *testing.T, d *disk.Disk, m api.Manifest) {
	t.Helper()
	if err := Write(d, m); err != api.OK || d.Waiting() != 0 || !d.On() {
		t.Fatalf("Write(%v) is error %d, and %d writes are pending", m, err, d.Waiting())
	}
}

// image is what a disk holds.
func image(t *testing.T, d *disk.Disk) []byte {
	t.Helper()
	var b []byte
	for i := range d.Count() {
		block, err := d.Read(i)
		if err != api.OK {
			t.Fatalf("block %d is not read: error %d", i, err)
		}
		b = append(b, block...)
	}
	return b
}

// wantImage says what a disk holds.
func wantImage(t *testing.T, d *disk.Disk, want []byte) {
	t.Helper()
	b := image(t, d)
	for i := range d.Count() {
		if !bytes.Equal(b[i*size:][:size], want[i*size:][:size]) {
			t.Fatalf("block %d is %q, not %q", i, b[i*size:][:size], want[i*size:][:size])
		}
	}
}

// pending is a block that is to be written.
type pending struct {
	at int
	b  []byte
}

// settled is what of some bytes is left when pending writes survive, are torn or lost.
func settled(b []byte, l []pending, keep, torn uint64) []byte {
	b = bytes.Clone(b)
	for i, w := range l {
		switch {
		case keep>>i&1 == 1:
			copy(b[w.at*size:], w.b)
		case torn>>i&1 == 1:
			copy(b[w.at*size:], w.b[:size/2])
		}
	}
	return b
}

// slowWrite is what a disk holds, by the chapter, when a manifest is written, and the power fails after n operations.
func slowWrite(was []byte, m api.Manifest, n int, keep, torn uint64) []byte {
	now, data := was, slowPut(m)
	starts := []int{0, slot}
	if m.Version%2 == 1 {
		starts = []int{slot, 0}
	}
	for _, start := range starts {
		var l []pending
		for i := range slot {
			l = append(l, pending{start + i, data[i*size:][:size]})
		}
		if n <= slot {
			return settled(now, l[:n], keep, torn)
		}
		now = settled(now, l, all, 0)
		n -= slot + 1
	}
	return now
}

// slowRead is the current manifest of a disk that is long enough, by the chapter.
func slowRead(b []byte) (api.Manifest, api.Errno) {
	a, inFirst := slowGet(b[:whole])
	z, inSecond := slowGet(b[whole:][:whole])
	blank := string(make([]byte, whole))
	switch {
	case inFirst && inSecond && a.Version < z.Version:
		return z, api.OK
	case inFirst:
		return a, api.OK
	case inSecond:
		return z, api.OK
	case string(b[:whole]) == blank || string(b[whole:][:whole]) == blank:
		return api.Manifest{}, api.OK
	}
	return api.Manifest{}, api.ErrCorrupt
}

// wantSlowRead: P9.1, against the specification, whatever a disk holds.
func wantSlowRead(t *testing.T, d *disk.Disk) {
	t.Helper()
	want, err := slowRead(image(t, d))
	if err == api.OK {
		wantRead(t, d, want)
	} else {
		wantNoRead(t, d, err)
	}
}

// versioned are manifests with a version: without files, with some, with as much as a slot has room for, and with almost as much.
func versioned(t *testing.T, version uint64) []api.Manifest {
	l := []api.Manifest{{Version: version}, copied(stage), fitting(t, version, whole), fitting(t, version, whole-size-1)}
	l[1].Version = version
	return l
}

// TestWrite: P9.1 and P9.2, all of both slots is written, padding too, nothing else is, and it is read back.
func TestWrite(t *testing.T) {
	for _, version := range []uint64{0, 1, 2, 3, 1 << 63, math.MaxUint64} {
		for _, m := range versioned(t, version) {
			d := filled(t, 40, old(40))
			wantWritten(t, d, m)
			wantImage(t, d, slices.Concat(slowPut(m), slowPut(m), old(40)[2*whole:]))
			wantRead(t, d, m)
			d.Back(0, 0)
			wantImage(t, d, slices.Concat(slowPut(m), slowPut(m), old(40)[2*whole:]))
			wantRead(t, d, m)
		}
	}
}

// TestWriteOrder: P9.1, which blocks are written in which order, and when the disk is synced: with a fuse at each operation, and each write alone surviving, torn or lost.
func TestWriteOrder(t *testing.T) {
	for _, version := range []uint64{0, 1, math.MaxUint64 - 1, math.MaxUint64} {
		m := fitting(t, version, whole)
		for n := range operations + 3 {
			tries := slices.Clone(crashes)
			for i := range slot {
				tries = append(tries, crash{1 << i, 0}, crash{^uint64(1 << i), 0}, crash{0, 1 << i})
			}
			for _, c := range tries {
				d := filled(t, 33, old(33))
				wantFused(t, d, m, n)
				d.Back(c.keep, c.torn)
				wantImage(t, d, slowWrite(old(33), m, n, c.keep, c.torn))
			}
		}
	}
}

// wantFused: P9.1, writing a manifest with a fuse of n fails, unless it lets all operations succeed.
func wantFused(t *testing.T, d *disk.Disk, m api.Manifest, n int) {
	t.Helper()
	d.Fuse(n)
	want := api.OK
	if n < operations {
		want = api.ErrDown
	}
	if err := Write(d, m); err != want || d.On() != (n >= operations) {
		t.Fatalf("Write with a fuse of %d is error %d, not %d", n, err, want)
	}
}

// TestWriteFirst: P9.1, which slot is the first one depends on the lowest bit of the version alone.
func TestWriteFirst(t *testing.T) {
	for _, version := range []uint64{0, 1, 2, 3, 4, 5, 15, 16, 17, 127, 128, 255, 256, 1<<31 - 1, 1 << 31, 1<<32 - 1, 1 << 32, 1<<32 + 1, 1<<63 - 1, 1 << 63, 1<<63 + 1, math.MaxUint64 - 1, math.MaxUint64} {
		for n := range operations {
			m := api.Manifest{Version: version}
			d := filled(t, 33, old(33))
			wantFused(t, d, m, n)
			d.Back(all, 0)
			wantImage(t, d, slowWrite(old(33), m, n, all, 0))
		}
	}
}

// TestWriteErrors: P9.1 and P0.2, a manifest that is not valid comes ahead of any error of the disk; then it is the disk's first one.
func TestWriteErrors(t *testing.T) {
	bad := names("b", "a")
	for version := range uint64(2) {
		bad.Version = version
		good := api.Manifest{Version: version}
		wantErrno(t, "Write to nil", Write(nil, good), api.ErrDown)
		wantErrno(t, "Write of an invalid one to nil", Write(nil, bad), api.ErrForm)
		for count := 1; count <= 40; count++ {
			d := newDisk(t, count)
			wantErrno(t, "Write of an invalid one", Write(d, bad), api.ErrForm)
			d.Off()
			wantErrno(t, "Write to a disk that is off", Write(d, good), api.ErrDown)
			wantErrno(t, "Write of an invalid one to a disk that is off", Write(d, bad), api.ErrForm)
			d.Back(all, all)
			wantImage(t, d, make([]byte, count*size))
			want := api.OK
			if count < 2*slot {
				want = api.ErrRange
			}
			wantErrno(t, "Write", Write(d, good), want)
			if !d.On() {
				t.Errorf("a disk of %d blocks is off", count)
			}
		}
	}
}

// wantErrno says what a call returned.
func wantErrno(t *testing.T, what string, got, want api.Errno) {
	t.Helper()
	if got != want {
		t.Errorf("%s is error %d, not %d", what, got, want)
	}
}

// TestWriteSmall: P9.1, on a disk that is too small, the blocks are written in order until there is none, unless the power fails ahead of it.
func TestWriteSmall(t *testing.T) {
	for version := range uint64(2) {
		m := fitting(t, version, whole)
		for count := 1; count < 2*slot; count++ {
			there := count // the operations that succeed: blocks, and perhaps the first slot's sync
			switch {
			case version == 1:
				there = max(0, count-slot)
			case count >= slot:
				there++
			}
			long := append(old(count), make([]byte, 2*whole)...)
			for _, n := range []int{0, 1, there - 1, there, there + 1, operations} {
				d := filled(t, count, old(count))
				d.Fuse(n)
				want, done := api.ErrRange, there
				if n >= 0 && n < there {
					want, done = api.ErrDown, n
				}
				wantErrno(t, "Write", Write(d, m), want)
				d.Back(all, 0)
				wantImage(t, d, slowWrite(long, m, done, all, 0))
			}
		}
	}
}

// TestWriteInvalid: P9.1 and P0.3, a manifest that is not valid uses no operation and changes nothing.
func TestWriteInvalid(t *testing.T) {
	d := written(t, stage)
	before := image(t, d)
	d.Fuse(0)
	for _, m := range []api.Manifest{names(""), names("a", "a"), directory(2, 1, file("a", 1)), directory(2, 2, file("a", 1, 31)), fitting(t, 2, whole+1)} {
		wantErrno(t, "Write of an invalid one", Write(d, m), api.ErrForm)
	}
	if !d.On() || d.Waiting() != 0 {
		t.Error("the disk was written to")
	}
	wantImage(t, d, before)
	wantRead(t, d, stage)
}

// TestWriteSyncs: P9.1, what was pending is completed by the first sync, and not ahead of it.
func TestWriteSyncs(t *testing.T) {
	for n := range operations + 1 {
		d := newDisk(t, 40)
		if err := d.Write(39, someBytes(size)); err != api.OK {
			t.Fatalf("error %d", err)
		}
		wantFused(t, d, stage, n)
		d.Back(0, 0)
		want := make([]byte, size)
		if n > slot {
			want = someBytes(size)
		}
		if b, _ := d.Read(39); !bytes.Equal(b, want) {
			t.Errorf("%d operations: %q was pending, %q is there", n, someBytes(size), b)
		}
	}
}

// TestReadDisk: P9.1 and P0.2, which disks have room behind both slots, and which are off.
func TestReadDisk(t *testing.T) {
	wantNoRead(t, nil, api.ErrArg)
	for count := 1; count <= 2*slot; count++ {
		d := newDisk(t, count)
		wantNoRead(t, d, api.ErrArg)
		d.Off()
		wantNoRead(t, d, api.ErrArg)
		d.Back(0, 0)
		Write(d, stage)
		wantNoRead(t, d, api.ErrArg)
	}
	for _, count := range []int{33, 34, 64, most - 1, most} {
		d := newDisk(t, count)
		wantRead(t, d, api.Manifest{})
		d.Off()
		wantNoRead(t, d, api.ErrDown)
		d.Back(0, 0)
		wantWritten(t, d, stage)
		wantRead(t, d, stage) // its blocks need not be there
		d.Off()
		wantNoRead(t, d, api.ErrDown)
		d.Back(0, 0)
		wantRead(t, d, stage)
	}
	d := filled(t, 33, old(33))
	wantNoRead(t, d, api.ErrCorrupt)
	d.Off()
	wantNoRead(t, d, api.ErrDown)
}

// TestReadBoth: P9.1, of two manifests, the one with the higher version, in whichever slot; that of slot 0 if both have the same.
func TestReadBoth(t *testing.T) {
	versions := []uint64{0, 1, 2, 3, 127, 128, 1<<32 - 1, 1 << 32, 1<<63 - 1, 1 << 63, math.MaxUint64 - 1, math.MaxUint64}
	for _, v := range versions {
		for _, w := range versions {
			a, z := directory(v, 9, file("first", 3, 40)), directory(w, 8, file("second", 4, 50))
			want := a
			if w > v {
				want = z
			}
			wantRead(t, filled(t, 33, slices.Concat(slowPut(a), slowPut(z))), want)
			want = z
			if v > w {
				want = a
			}
			wantRead(t, filled(t, 33, slices.Concat(slowPut(z), slowPut(a))), want)
		}
	}
}

// TestReadOne: P9.1, where one slot alone contains a manifest, that is the current one, of whatever version, whatever the other slot holds.
func TestReadOne(t *testing.T) {
	spoilt := slowPut(directory(9, 9, file("x", 1)))
	spoilt[3] ^= 1
	for _, version := range []uint64{0, 1, 2, math.MaxUint64} {
		for _, m := range versioned(t, version) {
			for _, other := range [][]byte{make([]byte, whole), old(slot), spoilt} {
				wantRead(t, filled(t, 33, slices.Concat(slowPut(m), other)), m)
				wantRead(t, filled(t, 33, slices.Concat(other, slowPut(m))), m)
			}
		}
	}
}

// TestReadNone: P9.1 and P0.2, where neither slot contains a manifest, it is the zero manifest if one of them is all zeros.
func TestReadNone(t *testing.T) {
	blank := make([]byte, whole)
	for _, behind := range [][]byte{make([]byte, size), someBytes(size)} {
		wantRead(t, filled(t, 33, slices.Concat(blank, blank, behind)), api.Manifest{})
		wantRead(t, filled(t, 33, slices.Concat(blank, old(slot), behind)), api.Manifest{})
		wantRead(t, filled(t, 33, slices.Concat(old(slot), blank, behind)), api.Manifest{})
		wantNoRead(t, filled(t, 33, slices.Concat(old(slot), old(slot), behind)), api.ErrCorrupt)
	}
	for i := range whole { // one byte is enough
		almost := make([]byte, whole)
		almost[i] = 1
		wantNoRead(t, filled(t, 33, slices.Concat(almost, old(slot))), api.ErrCorrupt)
		wantNoRead(t, filled(t, 33, slices.Concat(old(slot), almost)), api.ErrCorrupt)
		wantRead(t, filled(t, 33, slices.Concat(almost, blank)), api.Manifest{})
		wantRead(t, filled(t, 33, slices.Concat(blank, almost)), api.Manifest{})
	}
}

// TestReadSlots: P9.1, each two contents of slots, against the specification.
func TestReadSlots(t *testing.T) {
	late, torn := fitting(t, 9, whole), slowPut(fitting(t, 8, whole))
	copy(torn[size:], make([]byte, size/2))
	l := [][]byte{
		make([]byte, whole),
		old(slot),
		torn,
		slowPut(late),
		slowPut(api.Manifest{}),
		slowPut(stage),
		slowPut(directory(1, 5)),
		append(slowEncoding(stage), old(slot)[:whole-26]...), // without its padding
		append([]byte{0}, slowPut(stage)[:whole-1]...),
		append(slowPut(api.Manifest{})[:15], make([]byte, whole-15)...),
		append(section(76, slowBody(stage)), make([]byte, whole-26)...),
		append(slowEncoding(directory(5, 1, file("a", 1))), make([]byte, whole-21)...), // not valid
	}
	for _, a := range l {
		for _, z := range l {
			for _, behind := range [][]byte{nil, slowPut(directory(99, 1))} {
				wantSlowRead(t, filled(t, 48, slices.Concat(a[:whole], z[:whole], behind)))
			}
		}
	}
}

// TestReadAcross: P9.1, an encoding that begins in one slot and ends in the other is in neither.
func TestReadAcross(t *testing.T) {
	b := slowPut(fitting(t, 1, whole))
	for shift := size; shift < whole; shift += size {
		all := slices.Concat(old(slot)[:shift], b, old(slot)[shift:])
		wantNoRead(t, filled(t, 33, all), api.ErrCorrupt)
	}
	wantNoRead(t, filled(t, 48, slices.Concat(old(slot), fitted(t, whole+1), make([]byte, whole)[:whole-1])), api.ErrCorrupt)
}

// fitted is an encoding of n bytes, with right checksums, whatever room there is.
func fitted(t *testing.T, n int) []byte {
	t.Helper()
	return slowEncoding(fitting(t, 1, n))
}

// TestReadPending: P9.1, what is pending is read; after a crash it is not.
func TestReadPending(t *testing.T) {
	m := fitting(t, 2, whole)
	for start := 0; start <= slot; start += slot {
		d := written(t, stage)
		for i := range slot {
			wantRead(t, d, stage)
			if err := d.Write(start+i, slowPut(m)[i*size:][:size]); err != api.OK {
				t.Fatalf("error %d", err)
			}
		}
		wantRead(t, d, m)
		if d.Waiting() != slot {
			t.Errorf("%d writes are pending", d.Waiting())
		}
		d.Back(0, 0)
		wantRead(t, d, stage)
	}
}

// TestReadChangesNothing: P9.1 and P0.3, to read is no operation, and leaves what is pending as it was.
func TestReadChangesNothing(t *testing.T) {
	d := written(t, stage)
	if err := d.Write(39, someBytes(size)); err != api.OK {
		t.Fatalf("error %d", err)
	}
	before := image(t, d)
	d.Fuse(0)
	for range 100 {
		wantRead(t, d, stage)
	}
	if !d.On() || d.Waiting() != 1 {
		t.Errorf("on is %v, with %d pending writes", d.On(), d.Waiting())
	}
	wantImage(t, d, before)
}

// TestBack: P9.2, manifests of any shape are read back, one after the other, on one disk.
func TestBack(t *testing.T) {
	x := &dice{}
	d := newDisk(t, 33)
	for version := range uint64(300) {
		m := someManifest(x)
		m.Version = version
		wantWritten(t, d, m)
		wantRead(t, d, m)
	}
}

// TestEarlier: P9.1, a manifest of an earlier version is written over all of a later one, and is then the current one.
func TestEarlier(t *testing.T) {
	for _, version := range []uint64{0, 1, 2, 3, 8, 9} {
		d := written(t, fitting(t, 9, whole), directory(version, 1))
		wantRead(t, d, directory(version, 1))
	}
}

// TestCrash: P9.2, the power fails at each operation of a Write of the next version: one of the two is read, the new one once its first slot is synced, and the old one if all was lost before.
func TestCrash(t *testing.T) {
	for _, version := range []uint64{127, math.MaxUint64 - 1} {
		for _, a := range versioned(t, version) {
			for _, z := range versioned(t, version+1) {
				wantCrashes(t, a, z)
			}
		}
	}
}

// wantCrashes: P9.2, for each operation, and each of the crashes.
func wantCrashes(t *testing.T, was, next api.Manifest) {
	t.Helper()
	before := written(t, was)
	stored := image(t, before)
	for n := range operations + 1 {
		for _, c := range crashes {
			d := filled(t, 40, stored)
			wantFused(t, d, next, n)
			d.Back(c.keep, c.torn)
			wantImage(t, d, slowWrite(stored, next, n, c.keep, c.torn))
			m, err := Read(d)
			isOld, isNew := same(m, was), same(m, next)
			if err != api.OK || !isOld && !isNew || n > slot && !isNew || n <= slot && c.keep|c.torn == 0 && !isOld || n == slot && c.keep == all && !isNew {
				t.Fatalf("%d operations of writing %v over %v, with %x and %x: Read is %v and %d", n, next, was, c.keep, c.torn, m, err)
			}
		}
	}
}

// TestCrashFirst: P9.2, so it is while the first manifest is being written: there was the zero manifest.
func TestCrashFirst(t *testing.T) {
	for version := range uint64(3) {
		for _, m := range versioned(t, version) {
			for n := range operations + 1 {
				for _, c := range crashes {
					d := newDisk(t, 40)
					wantFused(t, d, m, n)
					d.Back(c.keep, c.torn)
					if x, err := Read(d); err != api.OK || !same(x, m) && !isNone(x) || n > slot && !same(x, m) {
						t.Fatalf("%d operations: Read is %v and %d", n, x, err)
					}
					wantSlowRead(t, d)
				}
			}
		}
	}
}

// TestCrashOff: P9.1 and P9.2, a disk that is turned off and on again without a fuse holds what was written.
func TestCrashOff(t *testing.T) {
	d := written(t, stage)
	d.Off()
	wantNoRead(t, d, api.ErrDown)
	wantErrno(t, "Write", Write(d, directory(2, 1)), api.ErrDown)
	d.Back(all, all)
	wantRead(t, d, stage)
}

// TestSpoil: P9.2, one byte of either slot is spoilt, each alone: the manifest is still read.
func TestSpoil(t *testing.T) {
	for version := range uint64(2) {
		for _, m := range versioned(t, version) {
			d := written(t, m)
			for i := range 2 * slot {
				for at := range size {
					spoil(t, d, i, at, 1<<(at%8))
					wantRead(t, d, m)
					spoil(t, d, i, at, 1<<(at%8))
				}
			}
			wantRead(t, d, m)
		}
	}
}

func spoil(t *testing.T, d *disk.Disk, i, at int, by byte) {
	t.Helper()
	if err := d.Spoil(i, at, by); err != api.OK {
		t.Fatalf("byte %d of block %d is not spoilt: error %d", at, i, err)
	}
}

// TestSpoilBoth: P9.1, a byte of each slot is spoilt: none is read, unless it is a byte of the padding.
func TestSpoilBoth(t *testing.T) {
	m := fitting(t, 5, whole-size-1) // its last byte is in the last block but one
	for i := range slot {
		for k := range slot {
			d := written(t, m)
			spoil(t, d, i, 126, 4)
			spoil(t, d, slot+k, 126, 4)
			if i < slot-1 && k < slot-1 {
				wantNoRead(t, d, api.ErrCorrupt)
			} else {
				wantRead(t, d, m)
			}
		}
	}
}

// TestSpoilLater: P9.2, a byte of the slot with the later version is spoilt while the other still contains the one before: that is read.
func TestSpoilLater(t *testing.T) {
	for version := range uint64(2) {
		for i := range slot {
			was, next := fitting(t, version, whole), fitting(t, version+1, whole)
			d := written(t, was)
			wantFused(t, d, next, slot+1) // its first slot alone
			d.Back(0, 0)
			wantRead(t, d, next)
			first := int(next.Version%2) * slot
			spoil(t, d, first+i, i, 1)
			wantRead(t, d, was)
			spoil(t, d, slot-first+i, i, 1)
			wantNoRead(t, d, api.ErrCorrupt)
		}
	}
}

// TestSequence: P9.1 and P9.2, many manifests written on one disk, with fuses, crashes and spoilt bytes, against the specification.
func TestSequence(t *testing.T) {
	x := &dice{n: 1 << 50}
	seen := map[api.Errno]int{}
	for range 60 {
		d := newDisk(t, 33)
		stored := make([]byte, 33*size)
		for range 60 {
			m := someManifest(x)
			m.Version = uint64(x.below(6))
			n, keep, torn := x.below(2*operations), x.wide()|x.wide(), x.wide()
			wantFused(t, d, m, n)
			d.Back(keep, torn)
			stored = slowWrite(stored, m, n, keep, torn)
			if x.below(2) == 0 {
				i, at, by := slot*x.below(2), x.below(20), byte(x.wide())
				spoil(t, d, i, at, by)
				stored[i*size+at] ^= by
			}
			wantImage(t, d, stored)
			_, err := slowRead(stored)
			seen[err]++
			wantSlowRead(t, d)
		}
	}
	if seen[api.OK] < 300 || seen[api.ErrCorrupt] < 50 {
		t.Errorf("%d are read, %d are not", seen[api.OK], seen[api.ErrCorrupt])
	}
}

// TestTwoDisks: P0.6, what is written on one disk is not on another, and is read again whatever was called between.
func TestTwoDisks(t *testing.T) {
	a, z := newDisk(t, 33), newDisk(t, 40)
	other := fitting(t, 2, whole)
	wantWritten(t, a, stage)
	wantRead(t, z, api.Manifest{})
	wantWritten(t, z, other)
	for range 3 {
		wantRead(t, a, stage)
		wantRead(t, z, other)
		wantNoRead(t, nil, api.ErrArg)
	}
	wantImage(t, a, slices.Concat(slowPut(stage), slowPut(stage), make([]byte, size)))
}

// TestWriteOwn: P0.4, a manifest that was written is not kept: what is done to it afterwards is not read.
func TestWriteOwn(t *testing.T) {
	m := spare()
	d := written(t, m)
	m.Files[0].Blocks[0] = 99
	m.Files[0].Name, m.Files[1].Id = "x", 77
	wantRead(t, d, stage)
	wantImage(t, d, slices.Concat(slowPut(stage), slowPut(stage), make([]byte, 8*size)))
}

// TestReadOwn: P0.4, what is read is memory of its own.
func TestReadOwn(t *testing.T) {
	d := written(t, stage)
	one, _ := Read(d)
	other, _ := Read(d)
	for i := range one.Files[0].Blocks {
		one.Files[0].Blocks[i] = -1
	}
	for i := range one.Files {
		one.Files[i] = api.File{Name: "x"}
	}
	if !same(other, stage) {
		t.Errorf("what is read is now %v", other)
	}
	wantRead(t, d, stage)
}
