package manifest

import (
	"bytes"
	"encoding/binary"
	"hash/crc32"
	"math"
	"palmer/api"
	"slices"
	"strings"
	"testing"
)

// some are valid manifests of several shapes.
func some(t *testing.T) []api.Manifest {
	l := []api.Manifest{{}, stage, {Version: 300, Next: 5}, fitting(t, 7, whole), names("a", "b", "c")}
	for _, k := range known {
		l = append(l, k.m)
	}
	return l
}

// TestGetNothing: P9.1, no bytes, or zeros alone, are no manifest.
func TestGetNothing(t *testing.T) {
	for _, b := range [][]byte{nil, {}, slowPut(stage)[:0], make([]byte, 0, 99), {0}, {77}, make([]byte, 13), make([]byte, 16), make([]byte, size), make([]byte, whole), make([]byte, 5000), bytes.Repeat([]byte{77}, whole), bytes.Repeat([]byte{0xff}, whole)} {
		wantNone(t, b)
	}
}

// TestGetBehind: P9.1, whatever is behind an encoding does not count.
func TestGetBehind(t *testing.T) {
	for _, m := range some(t) {
		b := slowEncoding(m)
		for _, behind := range [][]byte{nil, {0}, {1}, {0xff}, someBytes(5), someBytes(3000), slowEncoding(stage), slowEncoding(api.Manifest{}), b, make([]byte, 4000)} {
			wantGet(t, append(bytes.Clone(b), behind...), m)
			if len(behind) > 0 {
				wantNone(t, append(bytes.Clone(behind[:1]), b...))
			}
		}
	}
}

// TestGetShort: P9.1, an encoding that is cut short at each length is none, but its padding is not asked for.
func TestGetShort(t *testing.T) {
	for _, m := range some(t) {
		n := len(slowEncoding(m))
		b := slowPut(m)
		for cut := range len(b) + 1 {
			if cut < n {
				wantNone(t, b[:cut])
			} else {
				wantGet(t, b[:cut], m)
			}
		}
	}
}

// TestGetChanged: P9.2, an encoding of which any one byte was changed, to any other, is not read; nor is one of which a byte is missing, or too many. The padding may be changed.
func TestGetChanged(t *testing.T) {
	for _, m := range some(t) {
		n := len(slowEncoding(m))
		b := slowPut(m)
		for i := range b {
			step := 85 // three changes, but each one where there are few bytes
			if i < n && n < 100 {
				step = 1
			}
			for change := step; change < 256; change += step {
				b[i] ^= byte(change)
				if i < n {
					wantNone(t, b)
				} else {
					wantGet(t, b, m)
				}
				b[i] ^= byte(change)
			}
			if i < n {
				wantSlow(t, slices.Delete(bytes.Clone(b), i, i+1))
				wantSlow(t, slices.Insert(bytes.Clone(b), i, 0))
				wantSlow(t, slices.Insert(bytes.Clone(b), i, b[i]))
			}
		}
		wantGet(t, b, m)
	}
}

// TestGetKind: P9.1, a section of another kind is no manifest, though its checksums are right.
func TestGetKind(t *testing.T) {
	for _, m := range some(t) {
		for kind := range 256 {
			b := section(byte(kind), slowBody(m))
			if kind == 77 {
				wantGet(t, b, m)
			} else {
				wantNone(t, b)
			}
		}
	}
}

// TestGetSum: P9.1, a section of which either checksum is not right.
func TestGetSum(t *testing.T) {
	b := slowEncoding(stage)
	for _, at := range []int{5, len(b) - 4} {
		for _, sum := range [][]byte{{0, 0, 0, 0}, {0xff, 0xff, 0xff, 0xff}, binary.BigEndian.AppendUint32(nil, binary.LittleEndian.Uint32(b[at:])), binary.LittleEndian.AppendUint32(nil, crc32.ChecksumIEEE(b[:at])+1)} {
			wantNone(t, slices.Concat(b[:at], sum, b[at+4:]))
		}
	}
}

// body is a section of the kind 77, with right checksums.
func body(b ...byte) []byte {
	return section(77, b)
}

// TestGetBody: P9.1, bodies that end early or have something left over, with right checksums.
func TestGetBody(t *testing.T) {
	for _, m := range some(t) {
		b := slowBody(m)
		wantGet(t, body(b...), m)
		for n := range b {
			wantNone(t, body(b[:n]...))
		}
		for _, behind := range [][]byte{{0}, {1}, {0x80}, {0, 0, 0, 0}, someBytes(50), b} {
			wantNone(t, body(append(bytes.Clone(b), behind...)...))
			wantSlow(t, body(append(bytes.Clone(behind), b...)...))
		}
	}
}

// TestGetNumbers: P9.1, a body of which a number is too great, each alone.
func TestGetNumbers(t *testing.T) {
	over := uint64(math.MaxUint32 + 1)
	good := []uint64{1, 9, 1, 1, 'a', 3, 1, 40}
	wantGet(t, body(numbers(good...)...), directory(1, 9, file("a", 3, 40)))
	for i, l := range [][]uint64{
		{},
		{over, over + 9, 1<<40 + 9, math.MaxUint64},
		{0, 2, 255, 1 << 16, over, over + 1, math.MaxUint64},
		{0, 2, 33, 256, 257, over + 1, 1 << 63, math.MaxUint64},
		{},
		{9, over, over + 3, 1<<40 + 3, math.MaxUint64},
		{0, 113, over, over + 1, 1<<63 - 1, 1 << 63, 1<<63 + 1, math.MaxUint64 - 111, math.MaxUint64},
		{0, 31, most, most + 40, 1<<31 + 40, over + 40, 1<<63 + 40, math.MaxUint64},
	} {
		for _, n := range l {
			bad := slices.Clone(good)
			bad[i] = n
			wantNone(t, body(numbers(bad...)...))
			wantNone(t, body(append(numbers(bad...), make([]byte, 100)...)...))
		}
	}
	for _, version := range []uint64{0, over, 1 << 63, math.MaxUint64} {
		wantGet(t, body(numbers(append([]uint64{version}, good[1:]...)...)...), directory(version, 9, file("a", 3, 40)))
	}
}

// TestGetForm: P9.1, a body of which a number is not in its shortest form, each alone, or above 64 bits.
func TestGetForm(t *testing.T) {
	for _, n := range []string{"\x80\x00", "\x81\x00", "\x81\x80\x00", "\xa8\x00", "\x80", "\xff\xff\xff\xff\xff\xff\xff\xff\xff\x02", "\xff\xff\xff\xff\xff\xff\xff\xff\xff\xff\x00", "\xff\xff\xff\xff\xff\xff\xff\xff\xff\xff\x01"} {
		good := []string{"\x01", "\x09", "\x01", "\x01", "a", "\x03", "\x01", "\x28"}
		for i := range good {
			if i != 4 {
				bad := slices.Clone(good)
				bad[i] = n
				wantNone(t, body([]byte(strings.Join(bad, ""))...))
				bad[i] = n + good[i]
				wantSlow(t, body([]byte(strings.Join(bad, ""))...))
			}
		}
		wantGet(t, body([]byte(strings.Join(good, ""))...), directory(1, 9, file("a", 3, 40)))
	}
}

// TestGetCount: P9.1, more files than there are, or fewer.
func TestGetCount(t *testing.T) {
	for count := range 5 {
		files := strings.Repeat("?", count)
		b := numbers(1, 9)
		l := []string{"a", "b", "c", "d"}[:count]
		var rest []byte
		for i := range files {
			rest = append(rest, 1, l[i][0], byte(i), 0)
		}
		for _, tells := range []uint64{0, 1, 2, 3, 4, 5, 100, 127, 128, 1 << 16, 1 << 32, 1<<32 + uint64(count), 1 << 63, math.MaxUint64} {
			all := body(slices.Concat(b, numbers(tells), rest)...)
			if ok := wantSlow(t, all); ok != (tells == uint64(count)) {
				t.Errorf("%d files where %d are told: %v", count, tells, ok)
			}
		}
	}
}

// TestGetName: P9.1, a name that is too long, or longer than what is left, or empty, with right checksums.
func TestGetName(t *testing.T) {
	for n := range 60 {
		name := strings.Repeat("x", n)
		b := slices.Concat(numbers(1, 9, 1, uint64(n)), []byte(name), numbers(3, 0))
		if ok := wantSlow(t, body(b...)); ok != (n >= 1 && n <= 32) {
			t.Errorf("a name of %d bytes: %v", n, ok)
		}
		for tells := range 40 {
			b := slices.Concat(numbers(1, 9, 1, uint64(tells)), []byte(name))
			wantNone(t, body(b...))
		}
	}
}

// TestGetInvalid: P9.1, manifests that are not valid, whose encodings have right checksums: each reason alone.
func TestGetInvalid(t *testing.T) {
	for i, m := range []api.Manifest{
		names(""),
		names("a", "a"),
		names("b", "a"),
		names("aa", "a"),
		names("\x80", "a"),
		names(strings.Repeat("x", 33)),
		directory(1, 0, file("a", 0)),
		directory(1, 3, file("a", 3)),
		directory(1, 3, file("a", 4)),
		directory(1, 3, file("a", 2), file("b", 2)),
		directory(1, 3, file("a", 2, 0)),
		directory(1, 3, file("a", 2, 31)),
		directory(1, 3, file("a", 2, most)),
		directory(1, 3, file("a", 2, 40, 40)),
		directory(1, 3, file("a", 2, 40), file("b", 1, 40)),
		fitting(t, 0, whole+1),
		fitting(t, 0, whole+2),
		fitting(t, 0, 3*whole),
		{Version: 1, Next: 2, Files: []api.File{{Name: "a", Size: 113, Blocks: []int{40}}}},
		{Version: 1, Next: 2, Files: []api.File{{Name: "a", Size: 112, Blocks: []int{40, 41}}}},
		{Version: 1, Next: 2, Files: []api.File{{Name: "a", Blocks: []int{40}}}},
	} {
		wantNone(t, slowEncoding(m))
		wantNone(t, append(slowEncoding(m), make([]byte, whole)...))
		if slowMay(m) {
			t.Errorf("manifest %d is valid by the chapter", i)
		}
	}
}

// TestGetLong: P0.1 and P9.1, sections that are as long as one may be, or tell of a longer body.
func TestGetLong(t *testing.T) {
	for _, n := range []int{api.MaxBody - 1, api.MaxBody} {
		wantNone(t, section(77, make([]byte, n)))
		wantNone(t, section(77, bytes.Repeat([]byte{1}, n)))
		wantNone(t, section(77, append(numbers(1, 9, math.MaxUint64), bytes.Repeat([]byte{1}, n-12)...)))
		wantNone(t, section(77, append(numbers(1, 9, 1, 1, 'a', 3, math.MaxInt), bytes.Repeat([]byte{40}, n-15)...)))
	}
	for _, n := range []uint32{api.MaxBody + 1, 1 << 31, math.MaxUint32} {
		head := marked(binary.LittleEndian.AppendUint32([]byte{77}, n))
		wantNone(t, head)
		wantNone(t, append(head, slowBody(stage)...))
	}
}

// TestGetRandom: P9.1, many bodies against the specification, changed in a byte or two, left out or put between, with right checksums.
func TestGetRandom(t *testing.T) {
	x := &dice{n: 1 << 40}
	seen := map[bool]int{}
	for range 4000 {
		b := slowBody(someManifest(x))
		for range 1 + x.below(2) {
			i := x.below(len(b))
			switch x.below(4) {
			case 0:
				b[i] = byte(x.wide())
			case 1:
				b[i] ^= 1 << x.below(8)
			case 2:
				b = slices.Insert(b, i, byte(x.wide()>>x.below(8)))
			case 3:
				if len(b) > 1 {
					b = slices.Delete(b, i, i+1)
				}
			}
		}
		seen[wantSlow(t, body(b...))]++
		seen[wantSlow(t, someBytes(x.below(200)))]++
		seen[wantSlow(t, body(someBytes(x.below(50))...))]++
	}
	if seen[true] < 300 || seen[false] < 300 {
		t.Errorf("%d are manifests, %d are not", seen[true], seen[false])
	}
}

// TestGetSmall: P9.1, all bodies of up to six bytes of a few that matter, against the specification.
func TestGetSmall(t *testing.T) {
	few := []byte{0, 1, 2, 40, 0x80}
	l := [][]byte{nil}
	for n := 0; n < len(l); n++ {
		wantSlow(t, body(l[n]...))
		if len(l[n]) < 6 {
			for _, x := range few {
				l = append(l, append(bytes.Clone(l[n]), x))
			}
		}
	}
}

// TestGetOwn: P0.4, what is read is memory of its own: each list of it, and its bytes are neither changed nor kept.
func TestGetOwn(t *testing.T) {
	want := directory(5, 9, file("a", 3, 40, 41), file("b", 4, 50, 51, 52), file("c", 5))
	b := append(slowPut(want), someBytes(50)...)
	before := bytes.Clone(b)
	one, _ := Get(b[:whole])
	other, _ := Get(b[:whole])
	if !bytes.Equal(b, before) {
		t.Errorf("%q was %q", b, before)
	}
	for i := range one.Files[0].Blocks[:cap(one.Files[0].Blocks)] {
		one.Files[0].Blocks[:cap(one.Files[0].Blocks)][i] = -1
	}
	if !slices.Equal(one.Files[1].Blocks, want.Files[1].Blocks) {
		t.Error("two lists of blocks share memory")
	}
	files := one.Files[:cap(one.Files)]
	for i := range files {
		files[i] = api.File{Name: "x"}
	}
	for i := range b {
		b[i] ^= 0xff
	}
	if !same(other, want) {
		t.Errorf("what is read is now %v", other)
	}
	wantGet(t, before, want)
}
