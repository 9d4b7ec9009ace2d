package page

import (
	"bytes"
	"encoding/binary"
	"hash/crc32"
	"math"
	"palmer/api"
	"palmer/mix"
	"strings"
	"testing"
)

const (
	most = 112 // the bytes that a page contains at most, by the chapter
	size = 128 // the bytes of a block
)

// someNumbers are files and places at which a byte of them begins and ends.
var someNumbers = []uint32{0, 1, 2, 127, 128, 255, 256, 257, 65535, 65536, 65537, 1<<24 - 1, 1 << 24, 1<<31 - 1, 1 << 31, math.MaxUint32 - 1, math.MaxUint32}

// known are pages with their checksums, worked out by another program.
var known = []struct {
	file, place uint32
	b           string
	head, sum   string
}{
	{0, 0, "", "\x00\x00\x00\x00\x00\x00\x00\x00\x00\x00\x00\x00", "\x0c\x0e\xd7\x15"},
	{3, 258, "abc", "\x03\x00\x00\x00\x02\x01\x00\x00\x03\x00\x00\x00", "\x5e\xe4\x4a\x63"},
	{math.MaxUint32, 0, "\x00", "\xff\xff\xff\xff\x00\x00\x00\x00\x01\x00\x00\x00", "\x17\x99\x67\xfe"},
	{0, math.MaxUint32, strings.Repeat("\xff", most), "\x00\x00\x00\x00\xff\xff\xff\xff\x70\x00\x00\x00", "\x81\x6f\x9e\x39"},
	{65536, 255, "123456789", "\x00\x00\x01\x00\xff\x00\x00\x00\x09\x00\x00\x00", "\x9f\x7c\x54\x01"},
	{0x04030201, 0x08070605, string(upTo(most)), "\x01\x02\x03\x04\x05\x06\x07\x08\x70\x00\x00\x00", "\x25\x0e\xea\x2e"},
}

// upTo are the bytes from 0 to n-1.
func upTo(n int) []byte {
	b := make([]byte, n)
	for i := range b {
		b[i] = byte(i)
	}
	return b
}

// numbers are without a pattern, and the same in each run.
func numbers(count int) []uint64 {
	l := make([]uint64, count)
	for i := range l {
		l[i] = mix.Mix(uint64(i))
	}
	return l
}

// someBytes are n bytes without a pattern, none of them zero.
func someBytes(n int) []byte {
	b := make([]byte, 0, n)
	for _, x := range numbers(n) {
		b = append(b, byte(x%255)+1)
	}
	return b
}

// summed is a block of 124 bytes and the checksum that belongs there, by the library.
func summed(b []byte) []byte {
	b = bytes.Clone(b[:size-4])
	return binary.LittleEndian.AppendUint32(b, crc32.ChecksumIEEE(b))
}

// block is one that tells of a file, a place and n bytes, holds others behind them, and has the checksum that belongs there.
func block(file, place, n uint32, b []byte) []byte {
	out := make([]byte, size)
	binary.LittleEndian.PutUint32(out, file)
	binary.LittleEndian.PutUint32(out[4:], place)
	binary.LittleEndian.PutUint32(out[8:], n)
	copy(out[12:size-4], b)
	return summed(out)
}

// slowPut is the page of some bytes by the chapter.
func slowPut(file, place uint32, b []byte) []byte {
	return block(file, place, uint32(len(b)), b)
}

// slowGet reads a page by the chapter, a part after the other.
func slowGet(b []byte, file, place uint32) ([]byte, api.Errno) {
	if len(b) != size {
		return nil, api.ErrForm
	}
	n := binary.LittleEndian.Uint32(b[8:])
	switch {
	case crc32.ChecksumIEEE(b[:size-4]) != binary.LittleEndian.Uint32(b[size-4:]),
		binary.LittleEndian.Uint32(b) != file,
		binary.LittleEndian.Uint32(b[4:]) != place,
		n > most:
		return nil, api.ErrCorrupt
	}
	for _, x := range b[12+n : size-4] {
		if x != 0 {
			return nil, api.ErrCorrupt
		}
	}
	return b[12 : 12+n], api.OK
}

// mustPut is the page of bytes that have room in it.
func mustPut(t *testing.T, file, place uint32, b []byte) []byte {
	t.Helper()
	page, err := Put(file, place, b)
	if err != api.OK {
		t.Fatalf("Put(%d, %d, %q) is error %d", file, place, b, err)
	}
	return page
}

// wantPut: P8.1, a page is made as the chapter says, byte by byte.
func wantPut(t *testing.T, file, place uint32, b []byte) {
	t.Helper()
	page, want := mustPut(t, file, place, b), slowPut(file, place, b)
	if len(page) != size {
		t.Fatalf("Put(%d, %d, %q) has %d bytes", file, place, b, len(page))
	}
	for i := range want {
		if page[i] != want[i] {
			t.Errorf("Put(%d, %d, %q) has %d at %d, not %d", file, place, b, page[i], i, want[i])
		}
	}
}

// wantLong: P8.1 and P0.2, there is no page of so many bytes, and nothing beside the error.
func wantLong(t *testing.T, file, place uint32, b []byte) {
	t.Helper()
	if page, err := Put(file, place, b); len(page) != 0 || err != api.ErrLong {
		t.Errorf("Put of %d bytes is %q and %d", len(b), page, err)
	}
}

// wantGet: P8.1 and P8.2, a block is the page of a file and a place, and contains so much.
func wantGet(t *testing.T, b []byte, file, place uint32, want []byte) {
	t.Helper()
	got, err := Get(b, file, place)
	if !bytes.Equal(got, want) || err != api.OK {
		t.Errorf("Get(%q, %d, %d) is %q and %d, not %q", b, file, place, got, err, want)
	}
}

// wantNone: P8.1, P8.2 and P0.2, a block is not the page of a file and a place, and nothing is beside the error.
func wantNone(t *testing.T, b []byte, file, place uint32, want api.Errno) {
	t.Helper()
	if got, err := Get(b, file, place); len(got) != 0 || err != want {
		t.Errorf("Get(%q, %d, %d) is %q and %d, not error %d", b, file, place, got, err, want)
	}
}

// wantSlow: P8.1, against the specification, whatever the block is; returned is the error.
func wantSlow(t *testing.T, b []byte, file, place uint32) api.Errno {
	t.Helper()
	want, err := slowGet(b, file, place)
	if err == api.OK {
		wantGet(t, b, file, place, want)
	} else {
		wantNone(t, b, file, place, err)
	}
	return err
}

// TestExample: P8.1, the example of the chapter.
func TestExample(t *testing.T) {
	if n := Many(113); n != 2 {
		t.Errorf("113 bytes are %d pages", n)
	}
}

// TestLimits: P8.1, the limits are those of the chapter.
func TestLimits(t *testing.T) {
	if api.Payload != most || api.Block != size {
		t.Errorf("%d bytes in a page, %d in a block", api.Payload, api.Block)
	}
}

// TestKnown: P8.1 and P8.2, pages that another program made: each part at its offset.
func TestKnown(t *testing.T) {
	for _, k := range known {
		want := []byte(k.head + k.b + strings.Repeat("\x00", most-len(k.b)) + k.sum)
		if page := mustPut(t, k.file, k.place, []byte(k.b)); !bytes.Equal(page, want) {
			t.Errorf("Put(%d, %d, %q) is %q, not %q", k.file, k.place, k.b, page, want)
		}
		wantGet(t, want, k.file, k.place, []byte(k.b))
	}
}

// TestNothing: P8.1 and P0.5, a page of no bytes, whatever they are absent from.
func TestNothing(t *testing.T) {
	want := slowPut(5, 6, nil)
	for _, b := range [][]byte{nil, {}, someBytes(9)[:0], someBytes(200)[:0], make([]byte, 0, 200)} {
		wantPut(t, 5, 6, b)
		wantGet(t, mustPut(t, 5, 6, b), 5, 6, nil)
	}
	wantGet(t, want, 5, 6, []byte{})
}

// TestEachSize: P8.1 and P8.2, each number of bytes is written, and read back; so are bytes that are all zero, or zero at the end.
func TestEachSize(t *testing.T) {
	for n := range most + 1 {
		for _, b := range [][]byte{someBytes(n), make([]byte, n), bytes.Repeat([]byte{0xff}, n), append(someBytes(n/2), make([]byte, n-n/2)...)} {
			wantPut(t, 7, 9, b)
			wantGet(t, mustPut(t, 7, 9, b), 7, 9, b)
		}
	}
}

// TestZeros: P8.1 and P8.2, zeros that are contained are told from those that pad.
func TestZeros(t *testing.T) {
	seen := map[string]int{}
	for n := range most + 1 {
		page := mustPut(t, 1, 2, make([]byte, n))
		seen[string(page)]++
		wantGet(t, page, 1, 2, make([]byte, n))
		if n > 0 {
			page = mustPut(t, 1, 2, append(make([]byte, n-1), 1))
			wantGet(t, page, 1, 2, append(make([]byte, n-1), 1))
		}
	}
	if len(seen) != most+1 {
		t.Errorf("%d pages of zeros are different", len(seen))
	}
}

// TestNumbers: P8.1 and P8.2, each file with each place; and a page is that of no other file or place.
func TestNumbers(t *testing.T) {
	for _, file := range someNumbers {
		for _, place := range someNumbers {
			wantPut(t, file, place, []byte("abc"))
			page := mustPut(t, file, place, []byte("abc"))
			wantGet(t, page, file, place, []byte("abc"))
			for _, other := range someNumbers {
				if other != file {
					wantNone(t, page, other, place, api.ErrCorrupt)
				}
				if other != place {
					wantNone(t, page, file, other, api.ErrCorrupt)
				}
			}
			if file != place {
				wantNone(t, page, place, file, api.ErrCorrupt)
			}
		}
	}
}

// TestOther: P8.2, each bit of the file and of the place is looked at: a difference in one alone, in both, and in both by the same.
func TestOther(t *testing.T) {
	for _, file := range someNumbers {
		place := file ^ 0x5a5a5a5a
		page := mustPut(t, file, place, someBytes(50))
		for bit := range 32 {
			change := uint32(1) << bit
			wantNone(t, page, file^change, place, api.ErrCorrupt)
			wantNone(t, page, file, place^change, api.ErrCorrupt)
			wantNone(t, page, file^change, place^change, api.ErrCorrupt)
		}
		wantNone(t, page, file+1, place-1, api.ErrCorrupt)
		wantNone(t, page, file-1, place+1, api.ErrCorrupt)
		wantGet(t, page, file, place, someBytes(50))
	}
}

// TestLong: P8.1 and P0.2, more bytes than a page can contain.
func TestLong(t *testing.T) {
	wantPut(t, 1, 1, someBytes(most-1))
	wantPut(t, 1, 1, someBytes(most))
	for _, n := range []int{most + 1, most + 2, 116, 124, size - 1, size, size + 1, 2 * most, 255, 256, 257, 1000, 1 << 16, 1<<16 + 5, 1 << 20} {
		wantLong(t, 1, 1, someBytes(n))
		wantLong(t, 1, 1, make([]byte, n))
		wantLong(t, math.MaxUint32, 0, someBytes(n))
	}
}

// TestLength: P8.1 and P0.2, what does not have the length of a block is ErrForm, whatever else is wrong with it.
func TestLength(t *testing.T) {
	page := slowPut(3, 4, []byte("abc"))
	spoilt := bytes.Clone(page)
	spoilt[12] ^= 1
	long := bytes.Repeat(page, 3)
	for _, b := range [][]byte{page, spoilt, make([]byte, size)} {
		for n := range size {
			wantNone(t, b[:n], 3, 4, api.ErrForm)
			wantNone(t, b[:n], 9, 9, api.ErrForm)
			wantNone(t, b[size-n:], 3, 4, api.ErrForm)
		}
	}
	for n := size + 1; n <= len(long); n++ {
		wantNone(t, long[:n], 3, 4, api.ErrForm)
		wantNone(t, long[:n], 4, 3, api.ErrForm)
	}
	for _, b := range [][]byte{nil, {}, page[:0], page[:127:127], append(bytes.Clone(page), 0), make([]byte, 129), make([]byte, 1<<16), make([]byte, 1<<16+size)} {
		wantNone(t, b, 3, 4, api.ErrForm)
		wantNone(t, b, 0, 0, api.ErrForm)
	}
	wantGet(t, long[:size], 3, 4, []byte("abc"))
	wantGet(t, long[size:][:size], 3, 4, []byte("abc"))
}

// TestShortSum: P8.1 and P0.2, so it is where the last four bytes of another length are their checksum.
func TestShortSum(t *testing.T) {
	for n := range 200 {
		b := make([]byte, n)
		b = binary.LittleEndian.AppendUint32(b, crc32.ChecksumIEEE(b))
		want := api.ErrForm
		if len(b) == size {
			want = api.OK
		}
		if got, err := Get(b, 0, 0); len(got) != 0 || err != want {
			t.Errorf("Get of %d bytes with their checksum is %q and %d, not %d", len(b), got, err, want)
		}
	}
}

// TestTooMany: P8.1, a block whose checksum is right, but that tells of more bytes than a page can contain.
func TestTooMany(t *testing.T) {
	for _, b := range [][]byte{nil, []byte("abc"), someBytes(most), bytes.Repeat([]byte{0xff}, most)} {
		for _, n := range []uint32{most + 1, most + 2, 115, 116, 117, size, size + 1, 255, 256, 256 + most, 1 << 16, 1<<16 + 3, 1 << 24, 1<<24 + 3, 1<<31 - 1, 1 << 31, 1<<31 + 3, 1<<31 + most, math.MaxUint32 - 11, math.MaxUint32 - 2, math.MaxUint32} {
			wantNone(t, block(3, 4, n, b), 3, 4, api.ErrCorrupt)
		}
	}
	for shift := 8; shift < 32; shift++ {
		for n := range uint32(most + 1) {
			wantNone(t, block(3, 4, 1<<shift|n, someBytes(int(n))), 3, 4, api.ErrCorrupt)
		}
	}
}

// TestPadding: P8.1, a block whose checksum is right, but that has a byte other than zero behind those that it contains.
func TestPadding(t *testing.T) {
	for n := range most {
		good := slowPut(3, 4, someBytes(n))
		for at := 12 + n; at < size-4; at++ {
			for _, by := range []byte{1, 0x80, 0xff} {
				b := bytes.Clone(good)
				b[at] = by
				wantNone(t, summed(b), 3, 4, api.ErrCorrupt)
			}
		}
		wantNone(t, block(3, 4, uint32(n), someBytes(most)), 3, 4, api.ErrCorrupt)
		wantGet(t, good, 3, 4, someBytes(n))
	}
}

// TestFewer: P8.1, a block whose checksum is right, and that tells of more or fewer bytes than were written: zeros are contained, but no others left out.
func TestFewer(t *testing.T) {
	for n := range most + 1 {
		for m := range most + 1 {
			b := block(3, 4, uint32(m), someBytes(n))
			if m < n {
				wantNone(t, b, 3, 4, api.ErrCorrupt)
			} else {
				wantGet(t, b, 3, 4, append(someBytes(n), make([]byte, m-n)...))
			}
		}
	}
}

// TestSum: P8.1, a block whose checksum is wrong: absent, of other bytes, or with its bytes in another order.
func TestSum(t *testing.T) {
	good := slowPut(3, 4, []byte("abc"))
	sum := good[size-4:]
	for _, other := range [][]byte{
		{0, 0, 0, 0},
		{0xff, 0xff, 0xff, 0xff},
		{sum[3], sum[2], sum[1], sum[0]},
		{sum[1], sum[0], sum[3], sum[2]},
		{^sum[0], ^sum[1], ^sum[2], ^sum[3]},
		slowPut(3, 4, []byte("abd"))[size-4:],
		slowPut(4, 3, []byte("abc"))[size-4:],
		binary.LittleEndian.AppendUint32(nil, crc32.ChecksumIEEE([]byte("abc"))),
		binary.LittleEndian.AppendUint32(nil, crc32.ChecksumIEEE(good[12:size-4])),
		binary.LittleEndian.AppendUint32(nil, crc32.ChecksumIEEE(good[:15])),
		binary.LittleEndian.AppendUint32(nil, crc32.Checksum(good[:size-4], crc32.MakeTable(crc32.Castagnoli))),
	} {
		wantNone(t, append(bytes.Clone(good[:size-4]), other...), 3, 4, api.ErrCorrupt)
	}
	for i := range sum {
		for bit := range 8 {
			b := bytes.Clone(good)
			b[size-4+i] ^= 1 << bit
			wantNone(t, b, 3, 4, api.ErrCorrupt)
		}
	}
}

// TestBlank: P8.1, blocks that were never written, or are of one byte alone, are no pages.
func TestBlank(t *testing.T) {
	for x := range 256 {
		b := bytes.Repeat([]byte{byte(x)}, size)
		n := binary.LittleEndian.Uint32(b)
		wantNone(t, b, n, n, api.ErrCorrupt)
		wantNone(t, b, 0, 0, api.ErrCorrupt)
	}
}

// TestChanged: P8.2, a page of which any one byte was changed, to any other, is not read: not as that of another file or place either, if one of theirs was changed.
func TestChanged(t *testing.T) {
	for _, n := range []int{0, 1, 3, 60, most - 1, most} {
		page := mustPut(t, 259, 3, someBytes(n))
		for i := range page {
			for change := 1; change < 256; change++ {
				page[i] ^= byte(change)
				wantNone(t, page, 259, 3, api.ErrCorrupt)
				wantNone(t, page, binary.LittleEndian.Uint32(page), binary.LittleEndian.Uint32(page[4:]), api.ErrCorrupt)
				page[i] ^= byte(change)
			}
		}
		wantGet(t, page, 259, 3, someBytes(n))
	}
}

// TestTorn: P8.1, a block whose front is from one page and the rest from another is neither of them.
func TestTorn(t *testing.T) {
	old := mustPut(t, 3, 4, someBytes(most))
	for _, now := range [][]byte{
		mustPut(t, 3, 4, []byte("abc")),
		mustPut(t, 3, 4, nil),
		mustPut(t, 4, 3, someBytes(most)),
		mustPut(t, 3, 5, bytes.Repeat([]byte{1}, most)),
	} {
		for cut := range size {
			for _, b := range [][]byte{append(bytes.Clone(now[:cut]), old[cut:]...), append(bytes.Clone(old[:cut]), now[cut:]...)} {
				if !bytes.Equal(b, old) && !bytes.Equal(b, now) {
					wantNone(t, b, 3, 4, api.ErrCorrupt)
					wantNone(t, b, 4, 3, api.ErrCorrupt)
					wantNone(t, b, 3, 5, api.ErrCorrupt)
				}
			}
		}
	}
}

// TestMany: P8.1, how many pages a file of each size needs.
func TestMany(t *testing.T) {
	for _, c := range []struct{ size, want int }{
		{math.MinInt, 0}, {math.MinInt + 1, 0}, {math.MinInt32, 0}, {-1 << 32, 0}, {-225, 0}, {-113, 0}, {-112, 0}, {-111, 0}, {-2, 0}, {-1, 0},
		{0, 0}, {1, 1}, {2, 1}, {111, 1}, {112, 1}, {113, 2}, {127, 2}, {128, 2}, {223, 2}, {224, 2}, {225, 3}, {336, 3}, {337, 4}, {11200, 100}, {11201, 101},
		{math.MaxInt32 - 15, 19173961}, {math.MaxInt32 - 14, 19173962}, {math.MaxInt32, 19173962}, {1 << 32, 38347923},
		{math.MaxInt - 175, 82351536043346211}, {math.MaxInt - 174, 82351536043346212}, {math.MaxInt - 63, 82351536043346212}, {math.MaxInt - 62, 82351536043346213}, {math.MaxInt - 1, 82351536043346213}, {math.MaxInt, 82351536043346213},
	} {
		if n := Many(c.size); n != c.want {
			t.Errorf("Many(%d) is %d, not %d", c.size, n, c.want)
		}
	}
	pages := 0
	for n := range 5000 { // counted up, as one page after the other is full
		if n%most == 1 {
			pages++
		}
		if Many(n) != pages {
			t.Errorf("Many(%d) is %d, not %d", n, Many(n), pages)
		}
		if Many(-n) != 0 {
			t.Errorf("Many(%d) is %d", -n, Many(-n))
		}
	}
}

// TestFile: P8.2, a file that is cut into pages: as many as Many says, and each is read in its place alone.
func TestFile(t *testing.T) {
	for _, n := range []int{0, 1, 111, 112, 113, 224, 225, 1000} {
		file := someBytes(n)
		var pages [][]byte
		for rest := file; len(rest) > 0; {
			part := rest[:min(most, len(rest))]
			pages = append(pages, mustPut(t, 2, uint32(len(pages)), part))
			rest = rest[len(part):]
		}
		if len(pages) != Many(n) {
			t.Errorf("%d bytes are %d pages, not %d", n, len(pages), Many(n))
		}
		var back []byte
		for i, page := range pages {
			part, _ := Get(page, 2, uint32(i))
			back = append(back, part...)
			wantNone(t, page, 2, uint32(i+1), api.ErrCorrupt)
		}
		if !bytes.Equal(back, file) {
			t.Errorf("%d bytes are read as %d others", n, len(back))
		}
	}
}

// TestRandom: P8.1 and P8.2, many pages and blocks, against the specification, whole, and with bytes changed, left out and put between, with their checksum and without.
func TestRandom(t *testing.T) {
	seen := map[api.Errno]int{}
	for _, x := range numbers(3000) {
		file, place := uint32(x>>32)>>(x%33), uint32(x)>>(x>>8%33)
		b := someBytes(int(x >> 16 % (most + 1)))
		wantPut(t, file, place, b)
		page := mustPut(t, file, place, b)
		seen[wantSlow(t, page, file, place)]++
		at := int(x >> 40 % size)
		spoilt := bytes.Clone(page)
		spoilt[at] = byte(x >> 48)
		seen[wantSlow(t, spoilt, file, place)]++
		seen[wantSlow(t, summed(spoilt), file, place)]++
		seen[wantSlow(t, append(bytes.Clone(page[:at]), page[at+1:]...), file, place)]++
		seen[wantSlow(t, append(append(bytes.Clone(page[:at]), 0), page[at:]...), file, place)]++
		moved := append(append(bytes.Clone(page[:at]), page[at+1:]...), 0)
		seen[wantSlow(t, moved, file, place)]++
		seen[wantSlow(t, summed(moved), file, place)]++
	}
	for _, err := range []api.Errno{api.OK, api.ErrForm, api.ErrCorrupt} {
		if seen[err] < 1000 {
			t.Errorf("only %d of all have the error %d", seen[err], err)
		}
	}
}

// TestAny: P0.1 and P8.1, any bytes, with the checksum that belongs there and without, against the specification.
func TestAny(t *testing.T) {
	for _, x := range numbers(3000) {
		b := someBytes(size)
		for i := range b {
			b[i] ^= byte(x >> (8 * (i % 8)))
		}
		file, place := binary.LittleEndian.Uint32(b), binary.LittleEndian.Uint32(b[4:])
		wantSlow(t, b, file, place)
		wantSlow(t, summed(b), file, place)
		binary.LittleEndian.PutUint32(b[8:], uint32(x>>16)>>(x%33))
		wantSlow(t, summed(b), file, place)
		wantSlow(t, b[:x%size], file, place)
	}
}

// TestAgain: P0.6, the same arguments have the same results, whatever was called between.
func TestAgain(t *testing.T) {
	want := slowPut(3, 258, []byte("abc"))
	for range 3 {
		if page, err := Put(3, 258, []byte("abc")); !bytes.Equal(page, want) || err != api.OK {
			t.Errorf("once more, it is %q and %d", page, err)
		}
		wantGet(t, want, 3, 258, []byte("abc"))
		wantNone(t, want, 258, 3, api.ErrCorrupt)
		wantNone(t, want[1:], 3, 258, api.ErrForm)
		wantPut(t, 9, 9, someBytes(most))
		wantLong(t, 3, 258, someBytes(most+1))
	}
}

// TestArgumentsStay: P0.4, no function writes into its arguments, or into their spare capacity.
func TestArgumentsStay(t *testing.T) {
	all := someBytes(400)
	before := bytes.Clone(all)
	for n := range all {
		Put(1, 2, all[:n])
		Get(all[:n], 1, 2)
	}
	if !bytes.Equal(all, before) {
		t.Errorf("%q was %q", all, before)
	}
	for n := range most + 1 {
		all := append(slowPut(1, 2, someBytes(n)), someBytes(100)...)
		before := bytes.Clone(all)
		Get(all[:size], 1, 2)
		Get(all[:size], 2, 1)
		all[20] ^= 1
		Get(all[:size], 1, 2)
		all[20] ^= 1
		if !bytes.Equal(all, before) {
			t.Errorf("%q was %q", all, before)
		}
	}
}

// spoil writes into all that a result has, its spare capacity too.
func spoil(b []byte) {
	b = b[:cap(b)]
	for i := range b {
		b[i] ^= 0xff
	}
}

// TestPutOwn: P0.4, a page is memory of its own, and stays as it is when the argument changes.
func TestPutOwn(t *testing.T) {
	for n := range most + 1 {
		for _, room := range []int{0, 5, 200} {
			b := append(make([]byte, 0, n+room), someBytes(n)...)
			one, other := mustPut(t, 1, 2, b), mustPut(t, 1, 2, b)
			spoil(one)
			if !bytes.Equal(b, someBytes(n)) || !bytes.Equal(other, slowPut(1, 2, someBytes(n))) {
				t.Errorf("%d bytes: a page shares memory", n)
			}
			spoil(b)
			if !bytes.Equal(other, slowPut(1, 2, someBytes(n))) {
				t.Errorf("%d bytes: a page follows its argument", n)
			}
			if again := mustPut(t, 1, 2, someBytes(n)); !bytes.Equal(again, other) {
				t.Errorf("%d bytes: a page shares memory with what is kept", n)
			}
		}
	}
}

// TestGetOwn: P0.4, so it is for the bytes that Get returns.
func TestGetOwn(t *testing.T) {
	for n := range most + 1 {
		b := append(slowPut(1, 2, someBytes(n)), someBytes(50)...)
		before := bytes.Clone(b)
		one, _ := Get(b[:size], 1, 2)
		other, _ := Get(b[:size], 1, 2)
		spoil(one)
		if !bytes.Equal(b, before) || !bytes.Equal(other, someBytes(n)) {
			t.Errorf("%d bytes: what is read shares memory", n)
		}
		spoil(b)
		if !bytes.Equal(other, someBytes(n)) {
			t.Errorf("%d bytes: what is read follows its argument", n)
		}
	}
}
