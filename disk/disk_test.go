package disk

import (
	"bytes"
	"encoding/binary"
	"math"
	"math/bits"
	"palmer/api"
	"palmer/mix"
	"slices"
	"testing"
)

const (
	size = 128   // the bytes of a block, by the chapter
	most = 65536 // the blocks of a disk, by the chapter
)

// absent are numbers of blocks that no disk has; nor is there a disk with as many.
var absent = []int{-1, -2, -size, -most, most + 1, 1 << 20, math.MaxInt32, math.MinInt32, math.MaxInt, math.MinInt}

// badSizes are lengths of bytes that are not a block.
var badSizes = []int{0, 1, 63, 64, 65, 126, 127, 129, 130, 192, 255, 256, 1000}

// fill is a block that holds the byte x alone.
func fill(x byte) []byte {
	return bytes.Repeat([]byte{x}, size)
}

// halves is a block of two halves that each hold a byte alone.
func halves(x, y byte) []byte {
	return append(bytes.Repeat([]byte{x}, size/2), bytes.Repeat([]byte{y}, size/2)...)
}

// pattern is a block of which no byte is like the one that follows it.
func pattern(n int) []byte {
	b := make([]byte, size)
	for i := range b {
		b[i] = byte(n*31 + i*7 + 1)
	}
	return b
}

// numbered is a block that tells a number; that of 0 is all zeros.
func numbered(n int) []byte {
	return binary.LittleEndian.AppendUint32(make([]byte, size-4), uint32(n))
}

// newDisk is a disk of count blocks.
func newDisk(t *testing.T, count int) *Disk {
	t.Helper()
	d, err := New(count)
	if d == nil || err != api.OK {
		t.Fatalf("New(%d) is error %d", count, err)
	}
	return d
}

// mustWrite writes what is to be taken, to block i and those behind it.
func mustWrite(t *testing.T, d *Disk, i int, l ...[]byte) {
	t.Helper()
	for k, b := range l {
		if err := d.Write(i+k, b); err != api.OK {
			t.Fatalf("block %d is not written: error %d", i+k, err)
		}
	}
}

// mustSync syncs a disk that is to do it.
func mustSync(t *testing.T, d *Disk) {
	t.Helper()
	if err := d.Sync(); err != api.OK || d.Waiting() != 0 {
		t.Fatalf("Sync is error %d, and %d writes are pending", err, d.Waiting())
	}
}

// hasBit says whether bit i modulo 64 of n is set: turned by i, it is the lowest one.
func hasBit(n uint64, i int) bool {
	return bits.RotateLeft64(n, -i)%2 == 1
}

// wantBlocks says what the disk's blocks are from the first one on.
func wantBlocks(t *testing.T, d *Disk, want ...[]byte) {
	t.Helper()
	for i, w := range want {
		if b, err := d.Read(i); !bytes.Equal(b, w) || err != api.OK {
			t.Errorf("block %d is %q and %d, not %q", i, b, err, w)
		}
	}
}

// wantState says whether a disk is on, and how many writes are pending.
func wantState(t *testing.T, d *Disk, on bool, waiting int) {
	t.Helper()
	if d.On() != on || d.Waiting() != waiting {
		t.Errorf("on is %v with %d pending writes, not %v with %d", d.On(), d.Waiting(), on, waiting)
	}
}

// wantErrno says what a call returned.
func wantErrno(t *testing.T, what string, got, want api.Errno) {
	t.Helper()
	if got != want {
		t.Errorf("%s is error %d, not %d", what, got, want)
	}
}

// wantNoRead: P0.2, a block is not read, and nothing is beside the error.
func wantNoRead(t *testing.T, d *Disk, i int, want api.Errno) {
	t.Helper()
	if b, err := d.Read(i); len(b) != 0 || err != want {
		t.Errorf("Read(%d) is %q and %d, not error %d", i, b, err, want)
	}
}

// wantDown: P6.1, a disk that is off does nothing, and only what it holds is told.
func wantDown(t *testing.T, d *Disk) {
	t.Helper()
	count, waiting := d.Count(), d.Waiting()
	for _, i := range append([]int{0, count - 1, count}, absent...) {
		wantNoRead(t, d, i, api.ErrDown)
		wantErrno(t, "Write of a disk that is off", d.Write(i, fill('x')), api.ErrDown)
		wantErrno(t, "Write of no bytes", d.Write(i, nil), api.ErrDown)
	}
	wantErrno(t, "Sync of a disk that is off", d.Sync(), api.ErrDown)
	if d.Count() != count {
		t.Errorf("%d blocks have become %d", count, d.Count())
	}
	wantState(t, d, false, waiting)
}

// TestExample: P6.1, the example of the chapter.
func TestExample(t *testing.T) {
	d := newDisk(t, 1)
	mustWrite(t, d, 0, fill('a'))
	mustSync(t, d)
	mustWrite(t, d, 0, fill('b'))
	wantBlocks(t, d, fill('b'))
	d.Back(0, 0)
	wantBlocks(t, d, fill('a'))
}

// TestNew: P6.1, a disk of each count that is allowed is on, with zeros, without pending writes or a fuse.
func TestNew(t *testing.T) {
	for _, count := range []int{1, 2, 3, 40, 64, 1000, most - 1, most} {
		d := newDisk(t, count)
		if d.Count() != count {
			t.Errorf("New(%d) has %d blocks", count, d.Count())
		}
		wantState(t, d, true, 0)
		for _, i := range []int{0, count / 2, count - 1} {
			if b, err := d.Read(i); !bytes.Equal(b, make([]byte, size)) || err != api.OK {
				t.Errorf("block %d of %d is %q and %d", i, count, b, err)
			}
		}
		wantNoRead(t, d, count, api.ErrRange)
		for range 100 {
			mustWrite(t, d, count-1, fill('x'))
			mustSync(t, d)
		}
	}
	if api.Block != size || api.MaxBlocks != most {
		t.Errorf("%d bytes, %d blocks", api.Block, api.MaxBlocks)
	}
}

// TestNotNew: P6.1 and P0.2, no disk has so many blocks, or so few.
func TestNotNew(t *testing.T) {
	for _, count := range append([]int{0, most + 2, 2 * most}, absent...) {
		if d, err := New(count); d != nil || err != api.ErrArg {
			t.Errorf("New(%d) is error %d", count, err)
		}
	}
}

// TestEachBlock: P6.1, each block of a disk is another one, and those that were never written hold zeros.
func TestEachBlock(t *testing.T) {
	d := newDisk(t, most)
	for i := 0; i < most; i += 3 {
		mustWrite(t, d, i, numbered(i))
	}
	mustSync(t, d)
	for i := range most {
		want := numbered(0)
		if i%3 == 0 {
			want = numbered(i)
		}
		if b, err := d.Read(i); !bytes.Equal(b, want) || err != api.OK {
			t.Fatalf("block %d is %q and %d, not %q", i, b, err, want)
		}
	}
}

// TestAbsent: P6.1 and P0.3, a block that is not there is neither read, nor written, nor spoiled.
func TestAbsent(t *testing.T) {
	for _, count := range []int{1, 2, 5, 64, most} {
		d := newDisk(t, count)
		mustWrite(t, d, 0, fill('a'))
		for _, i := range append([]int{count, count + 1}, absent...) {
			wantNoRead(t, d, i, api.ErrRange)
			wantErrno(t, "Write of no block", d.Write(i, fill('b')), api.ErrRange)
			for _, at := range []int{-1, 0, 127, 128} {
				wantErrno(t, "Spoil of no block", d.Spoil(i, at, 1), api.ErrRange)
			}
		}
		wantState(t, d, true, 1)
		for _, i := range []int{0, count - 1} { // the first, and the last
			wantErrno(t, "Write", d.Write(i, pattern(i)), api.OK)
			wantErrno(t, "Spoil", d.Spoil(i, 0, 1), api.OK)
			if b, err := d.Read(i); !bytes.Equal(b, pattern(i)) || err != api.OK {
				t.Errorf("block %d of %d is %q and %d", i, count, b, err)
			}
		}
	}
}

// TestForm: P6.1 and P0.3, bytes that are not a block are not written.
func TestForm(t *testing.T) {
	d := newDisk(t, 2)
	mustWrite(t, d, 0, fill('a'))
	for _, n := range badSizes {
		wantErrno(t, "Write of another size", d.Write(0, make([]byte, n)), api.ErrForm)
		wantErrno(t, "Write with spare bytes", d.Write(1, make([]byte, n, 2000)), api.ErrForm)
	}
	wantErrno(t, "Write of nil", d.Write(0, nil), api.ErrForm)
	wantErrno(t, "Write of nil", d.Write(1, nil), api.ErrForm)
	wantState(t, d, true, 1)
	wantBlocks(t, d, fill('a'), fill(0))
	wantErrno(t, "Write of 128 bytes", d.Write(1, make([]byte, 128)), api.OK)
	wantState(t, d, true, 2)
}

// TestPending: P6.1, what was written last is read, of each block, and it is pending.
func TestPending(t *testing.T) {
	d := newDisk(t, 3)
	for n := range 20 {
		mustWrite(t, d, n%2, pattern(n))
		wantState(t, d, true, n+1)
		older := fill(0)
		if n > 0 {
			older = pattern(n - 1)
		}
		if n%2 == 0 {
			wantBlocks(t, d, pattern(n), older, fill(0))
		} else {
			wantBlocks(t, d, older, pattern(n), fill(0))
		}
	}
	d.Back(0, 0)
	wantState(t, d, true, 0)
	wantBlocks(t, d, fill(0), fill(0), fill(0))
}

// TestSync: P6.1, all that is pending is completed, in its order, and is there after a crash.
func TestSync(t *testing.T) {
	d := newDisk(t, 3)
	for range 3 { // nothing is pending
		mustSync(t, d)
		wantBlocks(t, d, fill(0), fill(0), fill(0))
	}
	mustWrite(t, d, 0, fill('a'), fill('b'))
	mustWrite(t, d, 0, fill('c'))
	mustWrite(t, d, 0, fill('d'))
	mustSync(t, d)
	for range 3 {
		wantBlocks(t, d, fill('d'), fill('b'), fill(0))
		d.Back(0, 0)
		mustSync(t, d)
	}
	mustWrite(t, d, 1, fill('e'))
	wantState(t, d, true, 1)
	d.Back(0, 0)
	wantBlocks(t, d, fill('d'), fill('b'), fill(0))
}

// TestFuse: P6.1, a fuse lets so many writes and syncs succeed; the next one is not performed, and the disk is off.
func TestFuse(t *testing.T) {
	for _, n := range []int{0, 1, 2, 3, 10, 100} {
		for syncs := range 4 { // of four operations, so many are syncs
			d := newDisk(t, 2)
			mustWrite(t, d, 0, fill('a'))
			mustSync(t, d)
			d.Fuse(n)
			want, now, waiting := fill('a'), fill('a'), 0
			for k := range n {
				if k%4 < syncs {
					mustSync(t, d)
					want, waiting = now, 0
					continue
				}
				now = pattern(k)
				waiting++
				mustWrite(t, d, 0, now)
				wantState(t, d, true, waiting)
			}
			wantState(t, d, true, waiting)
			wantBlocks(t, d, now, fill(0))
			if syncs%2 == 0 {
				wantErrno(t, "the write at the fuse", d.Write(1, fill('z')), api.ErrDown)
			} else {
				wantErrno(t, "the sync at the fuse", d.Sync(), api.ErrDown)
			}
			wantState(t, d, false, waiting)
			wantDown(t, d)
			d.Back(0, 0)
			wantState(t, d, true, 0)
			wantBlocks(t, d, want, fill(0))
		}
	}
}

// TestFuseSync: P6.1, a sync at the fuse completes nothing: what was pending is numbered and survives like all that is.
func TestFuseSync(t *testing.T) {
	for bits := range uint64(4) {
		d := newDisk(t, 2)
		d.Fuse(2)
		mustWrite(t, d, 0, fill('a'), fill('b'))
		wantErrno(t, "the sync at the fuse", d.Sync(), api.ErrDown)
		wantErrno(t, "the sync behind", d.Sync(), api.ErrDown)
		wantErrno(t, "the write behind", d.Write(0, fill('c')), api.ErrDown)
		wantState(t, d, false, 2)
		d.Back(bits, 0)
		want := [][]byte{fill(0), fill(0)}
		for i := range want {
			if bits>>i&1 == 1 {
				want[i] = fill('a' + byte(i))
			}
		}
		wantBlocks(t, d, want...)
	}
}

// TestFuseWrite: P6.1, the write at the fuse is not performed, and does not survive.
func TestFuseWrite(t *testing.T) {
	for _, bits := range []uint64{0, 1, 2, 3, math.MaxUint64} {
		d := newDisk(t, 1)
		d.Fuse(1)
		mustWrite(t, d, 0, fill('a'))
		wantErrno(t, "the write at the fuse", d.Write(0, fill('b')), api.ErrDown)
		wantState(t, d, false, 1)
		d.Back(bits, bits)
		if bits&1 == 1 {
			wantBlocks(t, d, fill('a'))
		} else {
			wantBlocks(t, d, fill(0))
		}
	}
}

// TestNoFuse: P6.1, a negative number is no fuse, and takes one away; a very large one is far.
func TestNoFuse(t *testing.T) {
	for _, n := range []int{-1, -2, -100, math.MinInt32, math.MinInt, math.MinInt + 1, 1000, math.MaxInt32, math.MaxInt} {
		for _, before := range []int{-1, 0, 1, 5} {
			d := newDisk(t, 1)
			d.Fuse(before)
			d.Fuse(n)
			for k := range 300 {
				mustWrite(t, d, 0, pattern(k))
				mustSync(t, d)
			}
			wantBlocks(t, d, pattern(299))
			wantState(t, d, true, 0)
		}
	}
}

// TestFuseAnew: P6.1, a fuse that is set anew counts from there, whatever is left of the one before.
func TestFuseAnew(t *testing.T) {
	for _, before := range []int{-1, 0, 1, 2, 50} {
		for _, used := range []int{0, 1, 2} {
			for n := range 4 {
				d := newDisk(t, 1)
				d.Fuse(before)
				for range min(used, before) {
					mustWrite(t, d, 0, fill('a'))
				}
				d.Fuse(n)
				for range n {
					mustSync(t, d)
				}
				wantState(t, d, true, d.Waiting())
				wantErrno(t, "the operation at the fuse", d.Sync(), api.ErrDown)
				wantDown(t, d)
			}
		}
	}
}

// TestFuseOff: P6.1, a fuse does not turn a disk on; after a crash there is none, however the disk was turned off.
func TestFuseOff(t *testing.T) {
	for _, n := range []int{-1, 0, 1, 2, 5} {
		for way := range 5 {
			d := newDisk(t, 1)
			switch way {
			case 0:
				d.Fuse(n)
				d.Off()
			case 1:
				d.Off()
				d.Fuse(n)
			case 2:
				d.Fuse(0)
				wantErrno(t, "Sync at the fuse", d.Sync(), api.ErrDown)
				d.Fuse(n)
			case 3:
				d.Fuse(0)
				wantErrno(t, "Write at the fuse", d.Write(0, fill('a')), api.ErrDown)
			case 4:
				d.Fuse(n)
			}
			if way < 4 {
				wantDown(t, d)
			}
			d.Back(0, 0)
			for k := range 20 {
				mustWrite(t, d, 0, pattern(k))
				mustSync(t, d)
			}
		}
	}
}

// TestNoOperation: P6.1, what is neither a write nor a sync, or a write that is refused, does not use up a fuse.
func TestNoOperation(t *testing.T) {
	for n := range 4 {
		d := newDisk(t, 2)
		d.Fuse(n)
		for k := range n + 1 {
			wantErrno(t, "Write of no block", d.Write(2, fill('b')), api.ErrRange)
			wantErrno(t, "Write of no block and bytes", d.Write(-1, nil), api.ErrRange)
			wantErrno(t, "Write of too few bytes", d.Write(0, fill('b')[1:]), api.ErrForm)
			wantErrno(t, "Write of no bytes", d.Write(1, nil), api.ErrForm)
			wantErrno(t, "Spoil", d.Spoil(1, 0, 0), api.OK)
			wantNoRead(t, d, 2, api.ErrRange)
			wantBlocks(t, d, fill(0))
			wantState(t, d, true, k)
			if k < n {
				mustWrite(t, d, 1, fill('c'))
			}
		}
		wantErrno(t, "the write at the fuse", d.Write(0, fill('d')), api.ErrDown)
		wantState(t, d, false, n)
	}
}

// TestOff: P6.1, a disk that was turned off does nothing, and keeps what is pending for the crash.
func TestOff(t *testing.T) {
	d := newDisk(t, 3)
	d.Off()
	wantDown(t, d)
	d.Back(0, 0)
	mustWrite(t, d, 0, fill('a'), fill('b'), fill('c'))
	for range 3 {
		d.Off()
		wantState(t, d, false, 3)
		wantDown(t, d)
	}
	d.Back(1, 4)
	wantState(t, d, true, 0)
	wantBlocks(t, d, fill('a'), fill(0), halves('c', 0))
	mustWrite(t, d, 1, fill('e'))
	mustSync(t, d)
	d.Off()
	d.Back(0, 0)
	wantBlocks(t, d, fill('a'), fill('e'), halves('c', 0))
}

// TestBack: P6.1, a disk is on after a crash, whether it was off or not, and nothing is pending.
func TestBack(t *testing.T) {
	for _, way := range []string{"on", "off", "fuse"} {
		for writes := range 4 {
			d := newDisk(t, 4)
			mustWrite(t, d, 0, fill('a'), fill('a'), fill('a'), fill('a'))
			mustSync(t, d)
			want := [][]byte{fill('a'), fill('a'), fill('a'), fill('a')}
			for i := range writes {
				mustWrite(t, d, i, fill('b'))
				want[i] = [][]byte{fill('b'), halves('b', 'a'), fill('a')}[i]
			}
			switch way {
			case "off":
				d.Off()
			case "fuse":
				d.Fuse(0)
				wantErrno(t, "Sync at the fuse", d.Sync(), api.ErrDown)
			}
			wantState(t, d, way == "on", writes)
			d.Back(1, 2)
			for range 3 { // nothing is left that could survive later
				wantState(t, d, true, 0)
				wantBlocks(t, d, want...)
				d.Back(math.MaxUint64, math.MaxUint64)
			}
		}
	}
}

// TestSurvivors: P6.1, write i survives by bit i modulo 64 of keep, and half of it by that of torn.
func TestSurvivors(t *testing.T) {
	const writes = 200
	numbers := []uint64{0, 3, math.MaxUint64, math.MaxUint32, 1<<63 - 1, 0x5555555555555555, 0x123456789abcdef0}
	for bit := range 64 {
		numbers = append(numbers, 1<<bit)
	}
	for _, keep := range numbers {
		for _, torn := range []uint64{0, 1, keep, keep << 1, ^keep, math.MaxUint64} {
			d := newDisk(t, writes)
			var want [][]byte
			for i := range writes {
				mustWrite(t, d, i, pattern(i))
				switch {
				case hasBit(keep, i):
					want = append(want, pattern(i))
				case hasBit(torn, i):
					want = append(want, append(pattern(i)[:64], make([]byte, 64)...))
				default:
					want = append(want, make([]byte, 128))
				}
			}
			d.Back(keep, torn)
			wantState(t, d, true, 0)
			wantBlocks(t, d, want...)
			if t.Failed() {
				t.Fatalf("with keep %x and torn %x", keep, torn)
			}
		}
	}
}

// TestOver: P6.1, the pending writes to one block are processed in their order, whole or torn.
func TestOver(t *testing.T) {
	for _, c := range []struct {
		keep, torn uint64
		want       []byte
	}{
		{0, 0, fill('o')},
		{1, 0, fill('a')},
		{2, 0, fill('b')},
		{4, 0, fill('c')},
		{3, 0, fill('b')},
		{5, 0, fill('c')},
		{0, 1, halves('a', 'o')},
		{0, 2, halves('b', 'o')},
		{0, 3, halves('b', 'o')},
		{0, 7, halves('c', 'o')},
		{1, 2, halves('b', 'a')}, // torn over one that survives
		{2, 1, fill('b')},        // one that survives over a torn one
		{2, 4, halves('c', 'b')},
		{1, 4, halves('c', 'a')},
		{1, 6, halves('c', 'a')},
		{4, 3, fill('c')},
		{3, 3, fill('b')}, // a bit in both
		{1, 1, fill('a')},
		{2, 7, halves('c', 'b')},
		{7, 7, fill('c')},
		{8, 16, fill('o')}, // bits of no write
	} {
		d := newDisk(t, 2)
		mustWrite(t, d, 0, fill('o'), fill('p'))
		mustSync(t, d)
		for _, x := range []byte("abc") {
			mustWrite(t, d, 0, fill(x))
		}
		d.Back(c.keep, c.torn)
		wantBlocks(t, d, c.want, fill('p'))
		if t.Failed() {
			t.Fatalf("with keep %d and torn %d", c.keep, c.torn)
		}
	}
}

// TestOverLater: P6.1, writes to one block whose numbers are 64 apart have one bit, and keep their order.
func TestOverLater(t *testing.T) {
	for _, c := range []struct {
		keep, torn uint64
		want       []byte
	}{
		{0, 0, fill(0)},
		{1, 0, pattern(128)},
		{2, 0, pattern(129)},
		{1, 2, append(pattern(129)[:64:64], pattern(128)[64:]...)},
		{1 << 2, 0, pattern(66)},
		{1 << 63, 1, append(pattern(128)[:64:64], pattern(127)[64:]...)},
		{1 << 63, 1 << 62, pattern(127)},
		{1 << 62, 1 << 63, append(pattern(127)[:64:64], pattern(126)[64:]...)},
	} {
		d := newDisk(t, 1)
		for i := range 130 { // the last ones have the bits 0 and 1
			mustWrite(t, d, 0, pattern(i))
		}
		d.Back(c.keep, c.torn)
		wantBlocks(t, d, c.want)
	}
}

// TestNumbers: P6.1, writes are numbered anew after each sync and each crash, and those that are refused have no number.
func TestNumbers(t *testing.T) {
	d := newDisk(t, 3)
	mustWrite(t, d, 0, fill('a'), fill('b'))
	mustSync(t, d)
	mustWrite(t, d, 0, fill('c'), fill('d'))
	d.Back(2, 0)
	wantBlocks(t, d, fill('a'), fill('d'), fill(0))
	wantErrno(t, "Write of no block", d.Write(3, fill('e')), api.ErrRange)
	mustWrite(t, d, 2, fill('f'))
	wantErrno(t, "Write of no bytes", d.Write(0, nil), api.ErrForm)
	mustWrite(t, d, 1, fill('g'))
	d.Back(1, 2)
	wantBlocks(t, d, fill('a'), halves('g', 'd'), fill('f'))
	mustWrite(t, d, 0, fill('h'))
	d.Off()
	wantErrno(t, "Write of a disk that is off", d.Write(1, fill('i')), api.ErrDown)
	d.Back(1, 0)
	wantBlocks(t, d, fill('h'), halves('g', 'd'), fill('f'))
}

// TestSpoil: P6.1, each byte of a block is spoiled alone, by each number, and is as it was if it is spoiled again.
func TestSpoil(t *testing.T) {
	d := newDisk(t, 3)
	mustWrite(t, d, 0, pattern(0), pattern(1), pattern(2))
	mustSync(t, d)
	for at := range size {
		for by := range 256 {
			want := pattern(1)
			want[at] ^= byte(by)
			wantErrno(t, "Spoil", d.Spoil(1, at, byte(by)), api.OK)
			wantBlocks(t, d, pattern(0), want, pattern(2))
			wantErrno(t, "Spoil", d.Spoil(1, at, byte(by)), api.OK)
		}
	}
	wantBlocks(t, d, pattern(0), pattern(1), pattern(2))
	wantErrno(t, "Spoil", d.Spoil(1, 5, 1), api.OK)
	wantErrno(t, "Spoil", d.Spoil(1, 5, 2), api.OK)
	want := pattern(1)
	want[5] ^= 3
	wantBlocks(t, d, pattern(0), want, pattern(2))
	wantState(t, d, true, 0)
}

// TestSpoilNever: P6.1, a block that was never written can be spoiled, and so it stays after a crash.
func TestSpoilNever(t *testing.T) {
	d := newDisk(t, 2)
	wantErrno(t, "Spoil", d.Spoil(1, 127, 9), api.OK)
	want := make([]byte, size)
	want[127] = 9
	wantBlocks(t, d, fill(0), want)
	d.Back(0, 0)
	wantBlocks(t, d, fill(0), want)
}

// TestSpoilNoByte: P6.1 and P0.3, a byte that is not there is not spoiled, on or off.
func TestSpoilNoByte(t *testing.T) {
	d := newDisk(t, 2)
	mustWrite(t, d, 0, fill('a'), fill('b'))
	mustSync(t, d)
	for _, off := range []bool{false, true} {
		if off {
			d.Off()
		}
		for _, at := range []int{-1, -2, -128, 128, 129, 256, math.MaxInt32, math.MaxInt, math.MinInt} {
			for _, i := range []int{-1, 0, 1, 2} {
				wantErrno(t, "Spoil of no byte", d.Spoil(i, at, 1), api.ErrRange)
				wantErrno(t, "Spoil of no byte by 0", d.Spoil(i, at, 0), api.ErrRange)
			}
		}
		for _, i := range []int{-1, 2, math.MaxInt, math.MinInt} {
			wantErrno(t, "Spoil of no block", d.Spoil(i, 0, 1), api.ErrRange)
			wantErrno(t, "Spoil of no block by 0", d.Spoil(i, 127, 0), api.ErrRange)
		}
	}
	wantState(t, d, false, 0)
	d.Back(0, 0)
	wantBlocks(t, d, fill('a'), fill('b'))
}

// TestSpoilBelow: P6.1, a pending write is not spoiled; what is below it shows if it is lost, or beside its half.
func TestSpoilBelow(t *testing.T) {
	low, high := halves('o', 'o'), halves('o', 'o')
	low[0] ^= 1
	high[127] ^= 1
	for _, c := range []struct {
		at         int
		keep, torn uint64
		want       []byte
	}{
		{0, 0, 0, low},
		{127, 0, 0, high},
		{0, 1, 0, fill('a')},
		{127, 1, 0, fill('a')},
		{0, 0, 1, halves('a', 'o')},
		{127, 0, 1, append(fill('a')[:64:64], high[64:]...)},
	} {
		for _, off := range []bool{false, true} {
			d := newDisk(t, 1)
			mustWrite(t, d, 0, fill('o'))
			mustSync(t, d)
			mustWrite(t, d, 0, fill('a'))
			if off {
				d.Off()
			}
			wantErrno(t, "Spoil", d.Spoil(0, c.at, 1), api.OK)
			wantState(t, d, !off, 1)
			if !off {
				wantBlocks(t, d, fill('a'))
			}
			d.Back(c.keep, c.torn)
			wantBlocks(t, d, c.want)
		}
	}
	d := newDisk(t, 1)
	mustWrite(t, d, 0, fill('a'))
	wantErrno(t, "Spoil", d.Spoil(0, 3, 255), api.OK)
	mustSync(t, d)
	wantBlocks(t, d, fill('a'))
}

// TestSpoilOff: P6.1, a disk that is off is spoiled, and stays off; to spoil by 0 changes nothing.
func TestSpoilOff(t *testing.T) {
	d := newDisk(t, 2)
	mustWrite(t, d, 0, fill('a'), fill('b'))
	mustSync(t, d)
	d.Off()
	wantErrno(t, "Spoil", d.Spoil(0, 0, 3), api.OK)
	wantErrno(t, "Spoil", d.Spoil(1, 127, 0), api.OK)
	wantDown(t, d)
	d.Back(0, 0)
	want := fill('a')
	want[0] ^= 3
	wantBlocks(t, d, want, fill('b'))
}

// TestOrder: P0.2 and P6.1, where several errors apply, the first one is returned, and the fuse comes last.
func TestOrder(t *testing.T) {
	d := newDisk(t, 2)
	d.Fuse(0)
	wantErrno(t, "no block, no bytes, a fuse", d.Write(2, nil), api.ErrRange)
	wantErrno(t, "no block, too many bytes, a fuse", d.Write(-1, make([]byte, 129)), api.ErrRange)
	wantErrno(t, "no block, a fuse", d.Write(2, fill('a')), api.ErrRange)
	wantErrno(t, "no bytes, a fuse", d.Write(0, nil), api.ErrForm)
	wantErrno(t, "too few bytes, a fuse", d.Write(1, make([]byte, 127)), api.ErrForm)
	wantNoRead(t, d, 2, api.ErrRange)
	wantBlocks(t, d, fill(0), fill(0))
	wantState(t, d, true, 0)
	wantErrno(t, "a fuse", d.Write(0, fill('a')), api.ErrDown)
	wantState(t, d, false, 0)
	wantErrno(t, "off, no block, no bytes", d.Write(2, nil), api.ErrDown)
	wantErrno(t, "off, no block", d.Write(-1, fill('a')), api.ErrDown)
	wantErrno(t, "off, no bytes", d.Write(0, nil), api.ErrDown)
	wantErrno(t, "off", d.Write(0, fill('a')), api.ErrDown)
	wantNoRead(t, d, 2, api.ErrDown)
	wantNoRead(t, d, 0, api.ErrDown)
	wantErrno(t, "off, no block, no byte", d.Spoil(2, 128, 1), api.ErrRange)
}

// TestNil: P6.1 and P0.1, each method of a disk that is nil.
func TestNil(t *testing.T) {
	var d *Disk
	for range 2 {
		if d.Count() != 0 {
			t.Errorf("%d blocks", d.Count())
		}
		wantState(t, d, false, 0)
		for _, i := range append([]int{0, 1}, absent...) {
			wantNoRead(t, d, i, api.ErrDown)
			wantErrno(t, "Write", d.Write(i, fill('a')), api.ErrDown)
			wantErrno(t, "Write of no bytes", d.Write(i, nil), api.ErrDown)
			for _, at := range []int{-1, 0, 127, 128} {
				wantErrno(t, "Spoil", d.Spoil(i, at, 1), api.ErrRange)
				wantErrno(t, "Spoil by 0", d.Spoil(i, at, 0), api.ErrRange)
			}
		}
		wantErrno(t, "Sync", d.Sync(), api.ErrDown)
		d.Fuse(0)
		d.Fuse(-1)
		d.Off()
		d.Back(math.MaxUint64, math.MaxUint64)
	}
}

// TestOwnMemory: P0.4, what was read is the reader's own: it changes nothing, and nothing changes it.
func TestOwnMemory(t *testing.T) {
	d := newDisk(t, 2)
	mustWrite(t, d, 0, fill('a'), fill('b'))
	for _, pending := range []bool{true, false} {
		if !pending {
			mustSync(t, d)
		}
		b, _ := d.Read(0)
		c, _ := d.Read(0)
		copy(b, fill('x'))
		_ = append(b[:1], fill('y')...)
		clear(b[:cap(b)])
		if !bytes.Equal(c, fill('a')) {
			t.Errorf("one read has changed another: %q", c)
		}
		wantBlocks(t, d, fill('a'), fill('b'))
	}
	b, _ := d.Read(0)
	wantErrno(t, "Spoil", d.Spoil(0, 0, 1), api.OK)
	mustWrite(t, d, 0, fill('c'))
	c, _ := d.Read(0)
	mustWrite(t, d, 0, fill('d'))
	mustSync(t, d)
	d.Back(0, 0)
	if !bytes.Equal(b, fill('a')) || !bytes.Equal(c, fill('c')) {
		t.Errorf("what was read has become %q and %q", b, c)
	}
	d.Off()
	if b, _ := d.Read(0); len(b) != 0 {
		t.Errorf("beside an error is %q", b)
	}
}

// TestArguments: P0.4, bytes that were written may change behind the call, and the call changes none of them.
func TestArguments(t *testing.T) {
	d := newDisk(t, 2)
	whole := bytes.Repeat([]byte{'s'}, 3*size)
	b := whole[size : 2*size : 3*size]
	copy(b, fill('a'))
	mustWrite(t, d, 0, b)
	copy(b, fill('b'))
	wantBlocks(t, d, fill('a'))
	mustWrite(t, d, 1, b)
	copy(b, fill('c'))
	wantBlocks(t, d, fill('a'), fill('b'))
	mustSync(t, d)
	copy(b, fill('d'))
	wantBlocks(t, d, fill('a'), fill('b'))
	mustWrite(t, d, 0, b)
	d.Back(1, 0)
	wantErrno(t, "Spoil", d.Spoil(0, 0, 255), api.OK)
	mustWrite(t, d, 0, fill('e'))
	wantErrno(t, "Write of too many bytes", d.Write(0, b[:size+1]), api.ErrForm)
	want := slices.Concat(fill('s'), fill('d'), fill('s'))
	if !bytes.Equal(whole, want) {
		t.Errorf("what was written has become %q", whole)
	}
}

// TestTwoDisks: P6.1, a disk is not touched by what is done to another.
func TestTwoDisks(t *testing.T) {
	a, b := newDisk(t, 2), newDisk(t, 2)
	mustWrite(t, a, 0, fill('a'))
	wantState(t, b, true, 0)
	mustWrite(t, b, 1, fill('b'))
	mustSync(t, a)
	wantState(t, b, true, 1)
	wantErrno(t, "Spoil", a.Spoil(1, 0, 7), api.OK)
	a.Fuse(0)
	mustSync(t, b)
	a.Off()
	wantBlocks(t, b, fill(0), fill('b'))
	a.Back(0, 0)
	b.Off()
	wantBlocks(t, a, fill('a'), append([]byte{7}, make([]byte, 127)...))
}

// deed is what lasts of a write (its bytes, as many as survive), or of a byte that was spoiled.
type deed struct {
	block, at int
	data      string
	by        byte
}

// slow is a disk by the chapter: all that was ever done to it, gone through anew for each block that is read.
type slow struct {
	count         int
	done, pending []deed
	off, fused    bool
	left          int
}

func (s *slow) has(i int) bool {
	return 0 <= i && i <= s.count-1
}

func (s *slow) read(i int) (string, api.Errno) {
	if s.off {
		return "", api.ErrDown
	}
	if !s.has(i) {
		return "", api.ErrRange
	}
	b := make([]byte, size)
	for _, d := range slices.Concat(s.done, s.pending) {
		if d.block == i {
			b[d.at] ^= d.by
			copy(b, d.data)
		}
	}
	return string(b), api.OK
}

// operate is an operation behind all other checks: true if it is performed.
func (s *slow) operate() bool {
	if s.fused && s.left == 0 {
		s.off = true
		return false
	}
	s.left--
	return true
}

func (s *slow) write(i int, b []byte) api.Errno {
	if s.off {
		return api.ErrDown
	}
	if !s.has(i) {
		return api.ErrRange
	}
	if len(b) != size {
		return api.ErrForm
	}
	if !s.operate() {
		return api.ErrDown
	}
	s.pending = append(s.pending, deed{block: i, data: string(b)})
	return api.OK
}

func (s *slow) sync() api.Errno {
	if s.off || !s.operate() {
		return api.ErrDown
	}
	s.done, s.pending = append(s.done, s.pending...), nil
	return api.OK
}

func (s *slow) fuse(n int) {
	s.fused, s.left = n >= 0, n
}

func (s *slow) back(keep, torn uint64) {
	for i, d := range s.pending {
		switch {
		case hasBit(keep, i):
			s.done = append(s.done, d)
		case hasBit(torn, i):
			d.data = d.data[:64]
			s.done = append(s.done, d)
		}
	}
	s.pending, s.off, s.fused = nil, false, false
}

func (s *slow) spoil(i, at int, by byte) api.Errno {
	if !s.has(i) || at < 0 || at > size-1 {
		return api.ErrRange
	}
	s.done = append(s.done, deed{block: i, at: at, by: by})
	return api.OK
}

// wantSlow: P6.1, all that a disk tells is what the one by the chapter tells.
func wantSlow(t *testing.T, d *Disk, s *slow) {
	t.Helper()
	if d.Count() != s.count {
		t.Errorf("%d blocks, not %d", d.Count(), s.count)
	}
	wantState(t, d, !s.off, len(s.pending))
	for i := -1; i <= s.count; i++ {
		want, wantErr := s.read(i)
		if b, err := d.Read(i); string(b) != want || err != wantErr {
			t.Errorf("block %d is %q and %d, not %q and %d", i, b, err, want, wantErr)
		}
	}
}

// dice gives the numbers of a sequence, the same in each run.
type dice struct{ tape api.Tape }

// below is a number from 0 to n-1.
func (d *dice) below(n int) int {
	d.tape.Step++
	return int(mix.Below(d.tape, uint64(n)))
}

// wide is any number of 64 bits: no bits, all of them, few, or as many as not.
func (d *dice) wide() uint64 {
	n := mix.Mix(uint64(d.below(1 << 30)))
	return []uint64{0, math.MaxUint64, 1 << (n % 64), n}[d.below(4)]
}

// someBlock is bytes for a write, seldom too few or too many.
func (d *dice) someBlock() []byte {
	b := append(pattern(d.below(256)), 1)
	if d.below(10) == 0 {
		return b[:[]int{0, 64, 127, 129}[d.below(4)]]
	}
	return b[:size]
}

// both does one thing, by chance, to a disk and to the one by the chapter; writes are so many of it in 20.
func both(t *testing.T, x *dice, writes int, d *Disk, s *slow) {
	t.Helper()
	i := x.below(s.count+2) - 1
	switch kind := x.below(20); {
	case kind < writes:
		b := x.someBlock()
		wantErrno(t, "Write", d.Write(i, b), s.write(i, b))
	case kind < 15:
		wantErrno(t, "Sync", d.Sync(), s.sync())
	case kind < 17:
		at, by := x.below(size+2)-1, byte(x.below(256))
		wantErrno(t, "Spoil", d.Spoil(i, at, by), s.spoil(i, at, by))
	case kind == 17:
		n := x.below(30) - 3
		d.Fuse(n)
		s.fuse(n)
	case kind == 18:
		d.Off()
		s.off = true
	default:
		keep, torn := x.wide(), x.wide()
		d.Back(keep, torn)
		s.back(keep, torn)
	}
}

// TestSlow: P6.1, P0.2, P0.3 and P0.6, any sequence of calls against the specification, those with errors among them.
func TestSlow(t *testing.T) {
	for seed := range 300 {
		x := &dice{api.Tape{Seed: uint64(seed)}}
		s := &slow{count: 1 + x.below(4)}
		d := newDisk(t, s.count)
		writes := 5 + x.below(11)
		for range 150 {
			both(t, x, writes, d, s)
			wantSlow(t, d, s)
			if t.Failed() {
				t.Fatalf("with seed %d", seed)
			}
		}
	}
}

// TestSlowMany: P6.1, many pending writes to few blocks against the specification, each time up to a crash.
func TestSlowMany(t *testing.T) {
	for seed := range 100 {
		x := &dice{api.Tape{Seed: uint64(seed), Walker: 1}}
		s := &slow{count: 1 + x.below(20)}
		d := newDisk(t, s.count)
		for range 5 {
			for range x.below(300) {
				i, b := x.below(s.count), x.someBlock()
				wantErrno(t, "Write", d.Write(i, b), s.write(i, b))
			}
			wantSlow(t, d, s)
			keep, torn := x.wide(), x.wide()
			d.Back(keep, torn)
			s.back(keep, torn)
			wantSlow(t, d, s)
			if t.Failed() {
				t.Fatalf("with seed %d", seed)
			}
		}
	}
}
