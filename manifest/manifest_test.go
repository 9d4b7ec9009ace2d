package manifest

import (
	"bytes"
	"encoding/binary"
	"hash/crc32"
	"math"
	"palmer/api"
	"palmer/disk"
	"palmer/mix"
	"slices"
	"strings"
	"testing"
)

const (
	size  = 128         // the bytes of a block, by its chapter
	slot  = 16          // the blocks of a slot, by the chapter
	whole = slot * size // the bytes of a slot
	first = 2 * slot    // the first block of files
	most  = 65536       // the blocks of a disk
	room  = 112         // the bytes of a page
	bare  = 13          // the bytes of a section without a body
)

// stage is a manifest with two files, one of them without blocks.
var stage = api.Manifest{Version: 1, Next: 9, Files: []api.File{{Name: "a", Id: 3, Size: 113, Blocks: []int{40, 33}}, {Name: "b", Id: 8}}}

// known are manifests with their encodings, worked out by another program.
var known = []struct {
	m    api.Manifest
	want string
}{
	{api.Manifest{}, "M\x03\x00\x00\x00\x0b\xc4\xf4t\x00\x00\x00\x12\xd9A\xff"},
	{stage, "M\x0d\x00\x00\x008\xb3+\x94\x01\x09\x02\x01a\x03q(!\x01b\x08\x00>M\x05["},
	{
		api.Manifest{Version: math.MaxUint64, Next: math.MaxUint32, Files: []api.File{{Name: "\x80\xff", Id: math.MaxUint32 - 1, Size: 1, Blocks: []int{most - 1}}}},
		"M\x1c\x00\x00\x00\xc2\x83\x8e|\xff\xff\xff\xff\xff\xff\xff\xff\xff\x01\xff\xff\xff\xff\x0f\x01\x02\x80\xff\xfe\xff\xff\xff\x0f\x01\xff\xff\x03\x1b\x97 E",
	},
	{
		api.Manifest{Version: 300, Next: 128, Files: []api.File{{Name: strings.Repeat("x", 32), Id: 127, Size: 336, Blocks: []int{127, 32, 16384}}}},
		"M.\x00\x00\x00\xe8\xb3\xac&\xac\x02\x80\x01\x01 xxxxxxxxxxxxxxxxxxxxxxxxxxxxxxxx\x7f\xd0\x02\x7f \x80\x80\x01\xbcC\x1f\xcd",
	},
}

// dice gives numbers without a pattern, the same in each run.
type dice struct{ n uint64 }

func (d *dice) wide() uint64 {
	d.n++
	return mix.Mix(d.n)
}

func (d *dice) below(n int) int {
	return int(d.wide() % uint64(n))
}

// someBytes are n bytes without a pattern, none of them zero.
func someBytes(n int) []byte {
	x := &dice{}
	b := make([]byte, n)
	for i := range b {
		b[i] = byte(x.below(255) + 1)
	}
	return b
}

// blocks are n blocks from the block low on.
func blocks(low, n int) []int {
	l := make([]int, n)
	for i := range l {
		l[i] = low + i
	}
	return l
}

// file is one whose size requires its blocks, the last of them for one byte.
func file(name string, id uint32, l ...int) api.File {
	return api.File{Name: name, Id: id, Size: max(0, (len(l)-1)*room+min(1, len(l))), Blocks: l}
}

// directory is a manifest of some files.
func directory(version uint64, next uint32, l ...api.File) api.Manifest {
	return api.Manifest{Version: version, Next: next, Files: l}
}

// names is a manifest of files with some names, and nothing in them.
func names(l ...string) api.Manifest {
	m := api.Manifest{Next: uint32(len(l))}
	for i, name := range l {
		m.Files = append(m.Files, api.File{Name: name, Id: uint32(i)})
	}
	return m
}

// fitting is a manifest whose encoding has n bytes, of which one file has most.
func fitting(t *testing.T, version uint64, n int) api.Manifest {
	t.Helper()
	for count := max(1, n/3-30); count <= n/3; count++ {
		for extra := range 3 { // a block behind 2^14 has three bytes, and the name makes up for what is missing
			m := directory(version, 1, file(strings.Repeat("n", 30+extra), 0, blocks(1<<14, count)...))
			if bare+len(slowBody(m)) == n {
				return m
			}
		}
	}
	t.Fatalf("no manifest has %d bytes", n)
	return api.Manifest{}
}

// marked is b with its checksum by the library.
func marked(b []byte) []byte {
	return binary.LittleEndian.AppendUint32(bytes.Clone(b), crc32.ChecksumIEEE(b))
}

// section is the encoding of a section by its chapter.
func section(kind byte, body []byte) []byte {
	return append(marked(binary.LittleEndian.AppendUint32([]byte{kind}, uint32(len(body)))), marked(body)...)
}

// numbers are the library's encodings of numbers.
func numbers(l ...uint64) []byte {
	var b []byte
	for _, n := range l {
		b = binary.AppendUvarint(b, n)
	}
	return b
}

// slowBody is what the section of a manifest contains by the chapter, valid or not.
func slowBody(m api.Manifest) []byte {
	b := numbers(m.Version, uint64(m.Next), uint64(len(m.Files)))
	for _, f := range m.Files {
		b = append(numbersBehind(b, uint64(len(f.Name))), f.Name...)
		b = numbersBehind(b, uint64(f.Id), uint64(f.Size))
		for _, i := range f.Blocks {
			b = numbersBehind(b, uint64(i))
		}
	}
	return b
}

func numbersBehind(b []byte, l ...uint64) []byte {
	return append(b, numbers(l...)...)
}

// slowEncoding is the encoding of a manifest by the chapter, without padding.
func slowEncoding(m api.Manifest) []byte {
	return section(77, slowBody(m))
}

// slowPut is the encoding with its padding.
func slowPut(m api.Manifest) []byte {
	b := slowEncoding(m)
	return append(b, make([]byte, whole-len(b))...)
}

// slowMay is what the chapter asks of a manifest, each file held against all others.
func slowMay(m api.Manifest) bool {
	var used []int
	for i, f := range m.Files {
		pages := f.Size / room
		if f.Size%room > 0 {
			pages++
		}
		if len(f.Name) < 1 || len(f.Name) > 32 || f.Id >= m.Next || f.Size < 0 || len(f.Blocks) != pages {
			return false
		}
		for _, g := range m.Files[:i] {
			if bytes.Compare([]byte(g.Name), []byte(f.Name)) >= 0 || g.Id == f.Id {
				return false
			}
		}
		for _, block := range f.Blocks {
			if block < 32 || block > 65535 || slices.Contains(used, block) {
				return false
			}
			used = append(used, block)
		}
	}
	return len(slowEncoding(m)) <= 2048
}

// cutter reads numbers from the front of bytes, whatever they are.
type cutter struct{ b []byte }

func (c *cutter) num() uint64 {
	n, size := binary.Uvarint(c.b)
	if size <= 0 {
		size = len(c.b)
	}
	c.b = c.b[size:]
	return n
}

func (c *cutter) take(n uint64) []byte {
	b := c.b[:min(n, uint64(len(c.b)))]
	c.b = c.b[len(b):]
	return b
}

// slowGet is by the chapter: the manifest is guessed, and is there if it is valid and b starts with its encoding.
func slowGet(b []byte) (api.Manifest, bool) {
	var m api.Manifest
	c := &cutter{b[min(9, len(b)):]}
	m.Version, m.Next = c.num(), uint32(c.num())
	for count := c.num(); count > 0 && len(c.b) > 0; count-- {
		f := api.File{Name: string(c.take(c.num())), Id: uint32(c.num()), Size: int(c.num())}
		for pages := f.Size; pages > 0 && len(c.b) > 0; pages -= room {
			f.Blocks = append(f.Blocks, int(c.num()))
		}
		m.Files = append(m.Files, f)
	}
	if !slowMay(m) || !bytes.HasPrefix(b, slowEncoding(m)) {
		return api.Manifest{}, false
	}
	return m, true
}

func sameFile(a, b api.File) bool {
	return a.Name == b.Name && a.Id == b.Id && a.Size == b.Size && slices.Equal(a.Blocks, b.Blocks)
}

func same(a, b api.Manifest) bool {
	return a.Version == b.Version && a.Next == b.Next && slices.EqualFunc(a.Files, b.Files, sameFile)
}

// isNone says whether a manifest is the zero value.
func isNone(m api.Manifest) bool {
	return m.Version == 0 && m.Next == 0 && len(m.Files) == 0
}

// copied is a manifest that shares nothing with m.
func copied(m api.Manifest) api.Manifest {
	m.Files = slices.Clone(m.Files)
	for i, f := range m.Files {
		m.Files[i].Blocks = slices.Clone(f.Blocks)
	}
	return m
}

// wantMay: P9.1 and P9.2, a manifest is valid, is written as the chapter says, byte by byte, and is read back.
func wantMay(t *testing.T, m api.Manifest) {
	t.Helper()
	if !slowMay(m) {
		t.Fatalf("%v is not valid by the chapter", m)
	}
	if !May(m) {
		t.Errorf("%v is not valid", m)
	}
	b, err := Put(m)
	if err != api.OK || len(b) != whole {
		t.Fatalf("Put(%v) is %d bytes and %d", m, len(b), err)
	}
	for i, x := range slowPut(m) {
		if b[i] != x {
			t.Fatalf("Put(%v) has %d at %d, not %d", m, b[i], i, x)
		}
	}
	wantGet(t, b, m)
	wantGet(t, slowEncoding(m), m)
}

// wantNot: P9.1 and P0.2, a manifest is not valid: it is neither put, with nothing beside the error, nor written; nor is it read, wherever its bytes came from.
func wantNot(t *testing.T, m api.Manifest) {
	t.Helper()
	if slowMay(m) {
		t.Fatalf("%v is valid by the chapter", m)
	}
	if May(m) {
		t.Errorf("%v is valid", m)
	}
	if b, err := Put(m); len(b) != 0 || err != api.ErrForm {
		t.Errorf("Put(%v) is %q and %d", m, b, err)
	}
	wantSlow(t, slowEncoding(m))
	d := newDisk(t, 33)
	if err := Write(d, m); err != api.ErrForm || d.Waiting() != 0 {
		t.Errorf("Write(%v) is error %d, and %d writes are pending", m, err, d.Waiting())
	}
	wantRead(t, d, api.Manifest{})
}

// wantGet: P9.1 and P9.2, b starts with the encoding of a manifest.
func wantGet(t *testing.T, b []byte, want api.Manifest) {
	t.Helper()
	if m, err := Get(b); !same(m, want) || err != api.OK {
		t.Errorf("Get(%q) is %v and %d, not %v", b, m, err, want)
	}
}

// wantNone: P9.1 and P0.2, b does not start with the encoding of a manifest, and nothing is beside the error.
func wantNone(t *testing.T, b []byte) {
	t.Helper()
	if m, err := Get(b); !isNone(m) || err != api.ErrCorrupt {
		t.Errorf("Get(%q) is %v and %d", b, m, err)
	}
}

// wantSlow: P9.1, Get against the specification, whatever b is; returned is whether there is a manifest.
func wantSlow(t *testing.T, b []byte) bool {
	t.Helper()
	want, ok := slowGet(b)
	if ok {
		wantGet(t, b, want)
	} else {
		wantNone(t, b)
	}
	return ok
}

// wantBoth: P9.1 and P9.2, against the specification, whether a manifest is valid or not; returned is whether it is.
func wantBoth(t *testing.T, m api.Manifest) bool {
	t.Helper()
	if slowMay(m) {
		wantMay(t, m)
		return true
	}
	wantNot(t, m)
	return false
}

// newDisk is a disk of count blocks.
func newDisk(t *testing.T, count int) *disk.Disk {
	t.Helper()
	d, err := disk.New(count)
	if err != api.OK {
		t.Fatalf("a disk of %d blocks is error %d", count, err)
	}
	return d
}

// wantRead: P9.1, the current manifest of a disk.
func wantRead(t *testing.T, d *disk.Disk, want api.Manifest) {
	t.Helper()
	if m, err := Read(d); !same(m, want) || err != api.OK {
		t.Errorf("Read is %v and %d, not %v", m, err, want)
	}
}

// wantNoRead: P9.1 and P0.2, a disk has no current manifest, and nothing is beside the error.
func wantNoRead(t *testing.T, d *disk.Disk, want api.Errno) {
	t.Helper()
	if m, err := Read(d); !isNone(m) || err != want {
		t.Errorf("Read is %v and %d, not error %d", m, err, want)
	}
}

// TestExample: P9.1, the example of the chapter.
func TestExample(t *testing.T) {
	b, err := Put(api.Manifest{})
	if !May(api.Manifest{}) || err != api.OK {
		t.Errorf("the zero manifest is not valid: error %d", err)
	}
	wantGet(t, b[:16], api.Manifest{})
	wantNone(t, b[:15])
	if !bytes.Equal(b[16:], make([]byte, whole-16)) {
		t.Errorf("behind 16 bytes there is %q", b[16:])
	}
}

// TestLimits: P9.1, the limits are those of the chapter.
func TestLimits(t *testing.T) {
	if api.Slot != slot || api.MaxName != 32 || api.MaxBlocks != most || api.Block != size || api.Payload != room {
		t.Errorf("%d, %d, %d, %d, %d", api.Slot, api.MaxName, api.MaxBlocks, api.Block, api.Payload)
	}
}

// TestKnown: P9.1 and P9.2, encodings that another program made, with their padding and without.
func TestKnown(t *testing.T) {
	for _, k := range known {
		padded := k.want + strings.Repeat("\x00", whole-len(k.want))
		if b, err := Put(k.m); string(b) != padded || err != api.OK {
			t.Errorf("Put(%v) is %q and %d, not %q", k.m, b, err, padded)
		}
		wantGet(t, []byte(k.want), k.m)
		wantGet(t, []byte(padded), k.m)
		wantMay(t, k.m)
	}
}

// TestNothing: P9.1 and P0.5, lists that are nil and that are empty are equal, with room behind them too.
func TestNothing(t *testing.T) {
	for _, l := range [][]api.File{nil, {}, stage.Files[:0], make([]api.File, 0, 9)} {
		m := api.Manifest{Version: 5, Next: 6, Files: l}
		wantMay(t, m)
		wantGet(t, slowPut(api.Manifest{Version: 5, Next: 6}), m)
	}
	for _, l := range [][]int{nil, {}, stage.Files[0].Blocks[:0], make([]int, 0, 9)} {
		m := directory(1, 1, api.File{Name: "a", Blocks: l})
		wantMay(t, m)
		wantGet(t, slowPut(directory(1, 1, api.File{Name: "a"})), m)
		wantNot(t, directory(1, 1, api.File{Name: "a", Size: 1, Blocks: l}))
	}
}

// TestVersions: P9.1 and P9.2, each number of bytes that a Version or Next may have.
func TestVersions(t *testing.T) {
	for bit := range 64 {
		for _, version := range []uint64{1 << bit, 1<<bit - 1, math.MaxUint64 - 1<<bit} {
			wantMay(t, directory(version, uint32(version)))
			wantMay(t, directory(version, uint32(version)|1, file("a", 0, 32)))
		}
	}
	wantMay(t, directory(math.MaxUint64, math.MaxUint32))
}

// TestNameLengths: P9.1, names have 1 to 32 bytes.
func TestNameLengths(t *testing.T) {
	for n := range 40 {
		m := names(strings.Repeat("x", n))
		if ok := wantBoth(t, m); ok != (n >= 1 && n <= 32) {
			t.Errorf("a name of %d bytes: %v", n, ok)
		}
		wantBoth(t, names("a", strings.Repeat("x", n)))
		wantBoth(t, names(strings.Repeat("x", n), "y"))
		wantBoth(t, names(strings.Repeat("é", n))) // two bytes each: what is counted is bytes
	}
	for _, n := range []int{127, 128, 255, 256, 2000, 2049, 1 << 20, 1<<20 + 1} {
		wantNot(t, names(strings.Repeat("x", n)))
	}
}

// TestNameBytes: P9.1 and P9.2, a name may have any bytes, and their order is that of bytes.
func TestNameBytes(t *testing.T) {
	for x := range 256 {
		wantMay(t, names(string([]byte{byte(x)})))
		wantMay(t, names("\x00", string([]byte{0, byte(x)})))
		for _, y := range []int{0, 1, 'a', 127, 128, 129, 200, 255} {
			m := names(string([]byte{byte(x)}), string([]byte{byte(y)}))
			if ok := wantBoth(t, m); ok != (x < y) {
				t.Errorf("%d ahead of %d: %v", x, y, ok)
			}
		}
	}
	wantMay(t, names("z", "\x80", "\xc3", "é", "\xff", "\xff\xfe"))
	wantNot(t, names("\xff", "a"))
	wantNot(t, names("é", "z"))
}

// TestNameOrder: P9.1, names ascend, without one that is there twice, wherever that is.
func TestNameOrder(t *testing.T) {
	for _, l := range [][]string{
		{"a", "b"}, {"a", "aa"}, {"a", "a\x00"}, {"a", "ab", "b"}, {"A", "a"}, {"10", "9"}, {"a", "a ", "a.", "a0", "aa"}, {" ", "a"}, {"x", strings.Repeat("x", 32)},
	} {
		wantMay(t, names(l...))
		slices.Reverse(l)
		wantNot(t, names(l...))
	}
	for _, l := range [][]string{
		{"a", "a"}, {"b", "a"}, {"aa", "a"}, {"a\x00", "a"}, {"a", "A"}, {"9", "10"}, {"a", "b", "b"}, {"a", "a", "b"}, {"b", "a", "c"}, {"a", "c", "b"}, {"b", "c", "a"}, {"a", "b", "a"},
		{"", "a"}, {"a", ""}, {"", ""}, {"a", "", "b"},
	} {
		wantNot(t, names(l...))
	}
}

// TestIds: P9.1, ids are below Next and distinct, in any order.
func TestIds(t *testing.T) {
	for _, next := range []uint32{1, 2, 3, 127, 128, 129, 1 << 16, 1 << 31, math.MaxUint32 - 1, math.MaxUint32} {
		wantMay(t, directory(1, next, file("a", 0)))
		wantMay(t, directory(1, next, file("a", next-1)))
		wantNot(t, directory(1, next, file("a", next)))
		wantNot(t, directory(1, next, file("a", math.MaxUint32)))
		wantNot(t, directory(1, next, file("a", 0), file("b", next)))
		wantNot(t, directory(1, next, file("a", next), file("b", 0)))
		wantNot(t, directory(1, next, file("a", 0), file("b", 0)))
		wantNot(t, directory(1, next, file("a", next-1), file("b", next-1)))
	}
	wantMay(t, directory(1, 0))
	for _, id := range []uint32{0, 1, math.MaxUint32} {
		wantNot(t, directory(1, 0, file("a", id)))
	}
	wantMay(t, directory(1, 9, file("a", 8), file("b", 0), file("c", 4)))
	wantNot(t, directory(1, 9, file("a", 8), file("b", 0), file("c", 8)))
	wantNot(t, directory(1, 9, file("a", 8), file("b", 0), file("c", 0)))
}

// TestSizes: P9.1, each size with fewer and more blocks than it requires.
func TestSizes(t *testing.T) {
	for _, c := range []struct{ size, pages int }{
		{0, 0}, {1, 1}, {2, 1}, {111, 1}, {112, 1}, {113, 2}, {128, 2}, {224, 2}, {225, 3}, {336, 3}, {337, 4}, {5600, 50}, {5601, 51},
	} {
		for n := range c.pages + 4 {
			m := directory(1, 2, api.File{Name: "a", Id: 1, Size: c.size, Blocks: blocks(40, n)})
			if ok := wantBoth(t, m); ok != (n == c.pages) {
				t.Errorf("%d bytes with %d blocks: %v", c.size, n, ok)
			}
		}
	}
	for _, n := range []int{-1, -2, -111, -112, -113, -128, -1 << 31, -1 << 32, math.MinInt + 1, math.MinInt, 1 << 20, 1 << 31, 1 << 32, math.MaxInt - 111, math.MaxInt} {
		for count := range 3 {
			wantNot(t, directory(1, 2, api.File{Name: "a", Id: 1, Size: n, Blocks: blocks(40, count)}))
		}
	}
}

// TestSizesOfTwo: P9.1, so it is for each of several files: what one has too few, another one cannot make up for.
func TestSizesOfTwo(t *testing.T) {
	for a := range 4 {
		for b := range 4 {
			m := directory(1, 2, api.File{Name: "a", Size: 113, Blocks: blocks(40, a)}, api.File{Name: "b", Id: 1, Size: 112, Blocks: blocks(50, b)})
			if ok := wantBoth(t, m); ok != (a == 2 && b == 1) {
				t.Errorf("%d and %d blocks: %v", a, b, ok)
			}
		}
	}
}

// TestBlocks: P9.1, blocks are behind both slots and below 65536.
func TestBlocks(t *testing.T) {
	for _, i := range []int{first, first + 1, 127, 128, 16383, 16384, most - 2, most - 1} {
		wantMay(t, directory(1, 2, file("a", 1, i)))
		wantMay(t, directory(1, 2, file("a", 0), file("b", 1, 40, i, 39)))
	}
	for _, i := range []int{-1, 0, 1, 15, 16, 17, 31, most, most + 1, most + 40, 1 << 31, 1 << 32, 1<<32 + 40, 40 - 1<<32, math.MaxInt, math.MinInt, math.MinInt + 40} {
		wantNot(t, directory(1, 2, file("a", 1, i)))
		wantNot(t, directory(1, 2, file("a", 0, i, 40)))
		wantNot(t, directory(1, 2, file("a", 0), file("b", 1, 40, i)))
	}
	for i := -3; i < 50; i++ {
		if ok := wantBoth(t, directory(1, 1, file("a", 0, i))); ok != (i >= first) {
			t.Errorf("block %d: %v", i, ok)
		}
	}
}

// TestBlocksTwice: P9.1, no block occurs twice, in one file or in two.
func TestBlocksTwice(t *testing.T) {
	wantMay(t, directory(1, 9, file("a", 1, 50, 40), file("b", 2, 60, 41, 39), file("c", 3, 32)))
	for _, l := range [][]api.File{
		{file("a", 1, 40, 40)},
		{file("a", 1, 40, 41, 40)},
		{file("a", 1, 40, 41, 41)},
		{file("a", 1, 40), file("b", 2, 40)},
		{file("a", 1, 40, 41), file("b", 2, 42, 41)},
		{file("a", 1, 40, 41), file("b", 2), file("c", 3, 50, 40)},
		{file("a", 1), file("b", 2, most-1, first), file("c", 3, first)},
		{file("a", 1, 45), file("b", 2, 40, 40)},
	} {
		wantNot(t, directory(1, 9, l...))
	}
}

// TestFits: P9.1, an encoding may be as long as a slot, but not by a byte longer.
func TestFits(t *testing.T) {
	for _, version := range []uint64{0, 128, math.MaxUint64} {
		for n := whole - 5; n <= whole+5; n++ {
			m := fitting(t, version, n)
			if ok := wantBoth(t, m); ok != (n <= whole) {
				t.Errorf("%d bytes: %v", n, ok)
			}
		}
	}
	m := fitting(t, 127, whole)
	m.Version = 128 // one byte more
	wantNot(t, m)
	m = fitting(t, 128, whole+1)
	m.Version = 127
	wantMay(t, m)
}

// TestMany: P9.1, as many files as a slot has room for, and one more; and more than any has.
func TestMany(t *testing.T) {
	var l []string
	for i := range 1000 {
		l = append(l, string([]byte{'a' + byte(i/100), '0' + byte(i/10%10), '0' + byte(i%10)}))
	}
	fit := 0
	for n := range l {
		if May(names(l[:n]...)) {
			fit = n
		}
	}
	if fit != 308 { // behind 18 bytes, 128 files of 6 and 180 of 7
		t.Errorf("%d files fit", fit)
	}
	wantMay(t, names(l[:308]...))
	wantNot(t, names(l[:309]...))
	wantNot(t, names(l...))
	wantNot(t, directory(1, 1, file("a", 0, blocks(first, 2000)...)))
	if May(directory(1, 1, file("a", 0, blocks(first, most-first)...))) {
		t.Error("a file of all blocks fits")
	}
}

// TestLongBody: P0.1 and P9.1, a manifest that not even a section has room for.
func TestLongBody(t *testing.T) {
	m := api.Manifest{Next: 1 << 17}
	for i := range 1 << 17 {
		name := binary.BigEndian.AppendUint32(nil, uint32(i))
		m.Files = append(m.Files, api.File{Name: string(name) + "0123456789", Id: uint32(i)})
	}
	if May(m) {
		t.Error("a manifest of 2^17 files is valid")
	}
	if b, err := Put(m); len(b) != 0 || err != api.ErrForm {
		t.Errorf("Put of 2^17 files is %d bytes and %d", len(b), err)
	}
}

// wantFind: P9.1, where a name is among those of a manifest, counted.
func wantFind(t *testing.T, m api.Manifest, name string) {
	t.Helper()
	want, there := 0, false
	for _, f := range m.Files {
		if f.Name < name {
			want++
		}
		there = there || f.Name == name
	}
	if i, ok := Find(m, name); i != want || ok != there {
		t.Errorf("Find of %q is %d and %v, not %d and %v", name, i, ok, want, there)
	}
}

// TestFind: P9.1, each name of a manifest, and names ahead of, between and behind them.
func TestFind(t *testing.T) {
	all := []string{"\x00", "10", "9", "A", "a", "a\x00", "aa", "ab", "b", "bb", "z", "\x80", "é", "\xff", strings.Repeat("\xff", 32)}
	for n := range len(all) + 1 {
		m := names(all[:n]...)
		wantMay(t, m)
		for _, name := range all {
			wantFind(t, m, name)
			wantFind(t, m, name+"\x00")
			wantFind(t, m, name+"m")
			wantFind(t, m, name[:len(name)-1])
		}
		for x := range 256 {
			wantFind(t, m, string([]byte{byte(x)}))
			wantFind(t, m, string([]byte{byte(x), 'a'}))
		}
		wantFind(t, m, "")
		wantFind(t, m, strings.Repeat("x", 1000))
	}
	for _, name := range []string{"", "a", "\xff"} {
		if i, ok := Find(api.Manifest{}, name); i != 0 || ok {
			t.Errorf("Find of %q among none is %d and %v", name, i, ok)
		}
	}
	if i, ok := Find(stage, "b"); i != 1 || !ok {
		t.Errorf("Find of b is %d and %v", i, ok)
	}
}

// TestFindAny: P0.1, Find ends for a manifest that is not valid.
func TestFindAny(t *testing.T) {
	for _, m := range []api.Manifest{names("", "", ""), names("b", "a", "c"), names("a", "a"), names("z", "y", "x", "w", "v")} {
		for _, name := range []string{"", "a", "b", "c", "w", "zz"} {
			if i, _ := Find(m, name); i < 0 || i > len(m.Files) {
				t.Errorf("Find of %q is %d", name, i)
			}
		}
	}
}

// someManifest is a valid manifest, of a few files in no pattern.
func someManifest(x *dice) api.Manifest {
	m := api.Manifest{Version: x.wide() >> x.below(64), Next: uint32(x.wide()>>(32+x.below(20))) | 1<<12}
	used := map[int]bool{}
	ids := map[uint32]bool{}
	var l []string
	for range x.below(8) {
		l = append(l, strings.Repeat(string([]byte{byte(x.wide())}), 1+x.below(32)))
	}
	slices.Sort(l)
	for _, name := range slices.Compact(l) {
		f := api.File{Name: name, Id: uint32(x.wide() % uint64(m.Next))}
		for range x.below(12) {
			if i := first + x.below(most-first)>>x.below(12); !used[i] && i >= first {
				used[i] = true
				f.Blocks = append(f.Blocks, i)
			}
		}
		if len(f.Blocks) > 0 {
			f.Size = len(f.Blocks)*room - x.below(room)
		}
		if !ids[f.Id] {
			ids[f.Id] = true
			m.Files = append(m.Files, f)
		}
	}
	return m
}

// change makes one number or name of a manifest another one.
func change(x *dice, m *api.Manifest) {
	if len(m.Files) == 0 {
		m.Version = x.wide()
		return
	}
	f, g := &m.Files[x.below(len(m.Files))], m.Files[x.below(len(m.Files))]
	switch x.below(8) {
	case 0:
		f.Name = g.Name + strings.Repeat("x", x.below(2)*x.below(33))
	case 1:
		f.Name = f.Name[:x.below(len(f.Name)+1)]
	case 2:
		f.Id = g.Id + uint32(x.below(3))
	case 3:
		m.Next = f.Id + uint32(x.below(2))
	case 4:
		f.Size += []int{1, -1, room, -room, 1 << 40, -f.Size, math.MinInt}[x.below(7)]
	case 5:
		f.Blocks = append(f.Blocks, g.Blocks...)
	case 6:
		f.Blocks = append(f.Blocks, x.below(2*first))
	case 7:
		if len(f.Blocks) > 0 {
			f.Blocks[x.below(len(f.Blocks))] = []int{x.below(first + 2), most - 1 + x.below(2), -x.below(3), first + x.below(most)}[x.below(4)]
		}
	}
}

// TestRandom: P9.1 and P9.2, many manifests against the specification, as they are valid, and changed in one place or more.
func TestRandom(t *testing.T) {
	x := &dice{}
	seen := map[bool]int{}
	for range 1500 {
		m := someManifest(x)
		wantMay(t, m)
		for range 3 {
			change(x, &m)
			seen[wantBoth(t, m)]++
		}
	}
	if seen[true] < 500 || seen[false] < 500 {
		t.Errorf("%d changed ones are valid, %d are not", seen[true], seen[false])
	}
}

// TestAgain: P0.6, the same arguments have the same results, whatever was called between.
func TestAgain(t *testing.T) {
	want := slowPut(stage)
	for range 3 {
		wantMay(t, stage)
		wantGet(t, want, stage)
		wantNone(t, want[1:])
		wantNot(t, names("b", "a"))
		wantNot(t, directory(1, 9, file("a", 1, 40, 40)))
		wantMay(t, directory(1, 9, file("a", 1, 40, 41)))
	}
}

// spare is the stage's manifest in lists that have room behind them, with something in it.
func spare() api.Manifest {
	m := copied(stage)
	m.Files = append(m.Files, file("spare", 99, 99))
	m.Files[0].Blocks = append(m.Files[0].Blocks, 77, 78)[:2]
	m.Files[1].Blocks = []int{55}[:0]
	m.Files = m.Files[:2]
	return m
}

// TestArgumentsStay: P0.4, no function writes into a manifest, or into its spare capacity.
func TestArgumentsStay(t *testing.T) {
	m := spare()
	May(m)
	Put(m)
	Find(m, "a")
	Find(m, "c")
	Write(newDisk(t, 40), m)
	Write(nil, m)
	m.Next = 0
	May(m)
	Put(m)
	m.Next = 9
	if !same(m, stage) {
		t.Errorf("the manifest is %v", m)
	}
	if f := m.Files[:3][2]; !sameFile(f, file("spare", 99, 99)) {
		t.Errorf("behind the files there is %v", f)
	}
	if l := m.Files[0].Blocks[:4]; l[2] != 77 || l[3] != 78 || m.Files[1].Blocks[:1][0] != 55 {
		t.Errorf("behind the blocks there is %v", l)
	}
}

// TestPutOwn: P0.4, an encoding is memory of its own.
func TestPutOwn(t *testing.T) {
	m := spare()
	one, _ := Put(m)
	other, _ := Put(m)
	for i := range one[:cap(one)] {
		one[:cap(one)][i] ^= 0xff
	}
	if !bytes.Equal(other, slowPut(stage)) || !same(m, stage) {
		t.Error("an encoding shares memory")
	}
	m.Files[0].Blocks[0] = 39
	m.Files[0].Name = "A"
	if again, _ := Put(stage); !bytes.Equal(other, again) {
		t.Error("an encoding follows its argument")
	}
}
