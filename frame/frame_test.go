package frame

import (
	"bytes"
	"encoding/binary"
	"hash/crc32"
	"math"
	"palmer/api"
	"slices"
	"strings"
	"testing"
)

const (
	most    = api.MaxBody
	marked  = 9 // the bytes of a head and of its checksum
	nothing = marked + 4
	example = "\x07\x00\x00\x00\x00\x0d+\x02t\x00\x00\x00\x00" // that of the chapter; as any bytes, it may stand in front of what is put
)

// known are sections with their encodings, worked out by another program.
var known = []struct {
	kind byte
	body string
	want string
}{
	{0, "", "\x00\x00\x00\x00\x00\x1d\xf7\x22\xc6\x00\x00\x00\x00"},
	{7, "", "\x07\x00\x00\x00\x00\x0d+\x02t\x00\x00\x00\x00"},
	{255, "", "\xff\x00\x00\x00\x00\x910F\x0c\x00\x00\x00\x00"},
	{7, "\x00", "\x07\x01\x00\x00\x00hL\xbe\xcc\x00\x8d\xef\x02\xd2"},
	{3, "abc", "\x03\x03\x00\x00\x00#\x227\x93abc\xc2A$5"},
	{255, "123456789", "\xff\x09\x00\x00\x00\x1b\x7fNq123456789&9\xf4\xcb"},
	{1, "\xff\xff\xff\xff", "\x01\x04\x00\x00\x00\xfaI\x20t\xff\xff\xff\xff\xff\xff\xff\xff"},
	{0, "\x00\x00\x00\x00", "\x00\x04\x00\x00\x00J`@I\x00\x00\x00\x00\x1c\xdfD!"},
	{2, strings.Repeat("\x00", 65537), "\x02\x01\x00\x01\x00Y\xf2E\x1d" + strings.Repeat("\x00", 65537) + "\xf3C\x0d\xe5"},
	{4, strings.Repeat("\x00", most), "\x04\x00\x00\x10\x00\x8cC`y" + strings.Repeat("\x00", most) + "\x1c\xea8\xa7"},
}

// sizes are those at which a byte of a length, or what is allowed, begins and ends.
var sizes = []int{0, 1, 2, 3, 4, 5, 127, 128, 255, 256, 257, 1000, 65535, 65536, 65537, most - 1, most}

// numbers yields the same numbers in each run.
func numbers(count int) func(func(uint64) bool) {
	return func(yield func(uint64) bool) {
		n := uint64(5)
		for range count {
			n = n*6364136223846793005 + 1442695040888963407
			x := (n ^ n>>33) * 0xff51afd7ed558ccd
			if !yield(x ^ x>>29) {
				return
			}
		}
	}
}

// someBytes are n bytes without a pattern.
func someBytes(n int) []byte {
	b := make([]byte, 0, n)
	for x := range numbers(n) {
		b = append(b, byte(x))
	}
	return b
}

// slowMark is b with its checksum by the library.
func slowMark(b []byte) []byte {
	return binary.LittleEndian.AppendUint32(bytes.Clone(b), crc32.ChecksumIEEE(b))
}

// slowHead is a head that tells of n bytes, with the checksum that belongs there.
func slowHead(kind byte, n uint32) []byte {
	return slowMark(binary.LittleEndian.AppendUint32([]byte{kind}, n))
}

// slowPut is the encoding of a section by the chapter, however long it is.
func slowPut(s api.Section) []byte {
	return append(slowHead(s.Kind, uint32(len(s.Body))), slowMark(s.Body)...)
}

// slowGet reads a section by the chapter, an error after the other.
func slowGet(b []byte) (api.Section, int, api.Errno) {
	if len(b) < marked {
		return api.Section{}, 0, api.ErrShort
	}
	n := binary.LittleEndian.Uint32(b[1:])
	if !bytes.Equal(b[:marked], slowHead(b[0], n)) {
		return api.Section{}, 0, api.ErrCorrupt
	}
	if n > 1<<20 {
		return api.Section{}, 0, api.ErrLong
	}
	size := 13 + int(n)
	if len(b) < size {
		return api.Section{}, 0, api.ErrShort
	}
	s := api.Section{Kind: b[0], Body: b[marked : size-4]}
	if !bytes.Equal(b[:size], slowPut(s)) {
		return api.Section{}, 0, api.ErrCorrupt
	}
	return s, size, api.OK
}

// slowAll reads sections by the chapter.
func slowAll(b []byte) ([]api.Section, api.Errno) {
	var l []api.Section
	for at := 0; at < len(b); {
		s, n, err := slowGet(b[at:])
		if err != api.OK {
			return nil, err
		}
		l = append(l, s)
		at += n
	}
	return l, api.OK
}

func same(a, b api.Section) bool {
	return a.Kind == b.Kind && bytes.Equal(a.Body, b.Body)
}

// short is b as an error message shows it.
func short(b []byte) string {
	if len(b) > 100 {
		return strings.ToValidUTF8(string(b[:50]), "?") + "…" + strings.ToValidUTF8(string(b[len(b)-50:]), "?")
	}
	return string(b)
}

// mustPut is the encoding of sections, one behind the other.
func mustPut(t *testing.T, l ...api.Section) []byte {
	t.Helper()
	var b []byte
	for _, s := range l {
		var err api.Errno
		if b, err = Put(b, s); err != api.OK {
			t.Fatalf("a section of %d bytes is not put: error %d", len(s.Body), err)
		}
	}
	return b
}

// wantGet: P5.1 and P5.2, a section is at the front of b, has so many bytes there, and is written in the same way.
func wantGet(t *testing.T, b []byte, want api.Section, size int) {
	t.Helper()
	s, n, err := Get(b)
	if !same(s, want) || n != size || err != api.OK {
		t.Fatalf("Get(%q) is %d, %q, %d and %d, not %d, %q and %d", short(b), s.Kind, short(s.Body), n, err, want.Kind, short(want.Body), size)
	}
	if again := mustPut(t, s); !bytes.Equal(again, b[:n]) {
		t.Fatalf("%q is written again as %q", short(b[:n]), short(again))
	}
}

// wantNone: P5.1 and P0.2, at the front of b there is no section, with nothing beside the error, and All says the same.
func wantNone(t *testing.T, b []byte, want api.Errno) {
	t.Helper()
	if s, n, err := Get(b); s.Kind != 0 || len(s.Body) != 0 || n != 0 || err != want {
		t.Fatalf("Get(%q) is %d, %q, %d and %d, not error %d", short(b), s.Kind, short(s.Body), n, err, want)
	}
	if len(b) > 0 {
		wantNotAll(t, b, want)
	}
}

// wantAll: P5.1 and P5.2, b consists of the sections.
func wantAll(t *testing.T, b []byte, want []api.Section) {
	t.Helper()
	if l, err := All(b); !slices.EqualFunc(l, want, same) || err != api.OK {
		t.Fatalf("All(%q) is %d sections and %d, not the %d", short(b), len(l), err, len(want))
	}
}

// wantNotAll: P5.1 and P0.2, b does not consist of sections, and none comes with the error.
func wantNotAll(t *testing.T, b []byte, want api.Errno) {
	t.Helper()
	if l, err := All(b); len(l) != 0 || err != want {
		t.Fatalf("All(%q) is %d sections and %d, not error %d", short(b), len(l), err, want)
	}
}

// wantSlow: P5.1, against the specification, whatever b is; returned is the error.
func wantSlow(t *testing.T, b []byte) api.Errno {
	t.Helper()
	want, size, err := slowGet(b)
	if err == api.OK {
		wantGet(t, b, want, size)
	} else {
		wantNone(t, b, err)
	}
	if l, err := slowAll(b); err == api.OK {
		wantAll(t, b, l)
	} else {
		wantNotAll(t, b, err)
	}
	return err
}

// TestExample: P5.1, the example of the chapter.
func TestExample(t *testing.T) {
	s := api.Section{Kind: 7}
	b, err := Put(nil, s)
	if len(b) != 13 || err != api.OK {
		t.Errorf("a section of the kind 7 without a body has %d bytes, with error %d", len(b), err)
	}
	wantGet(t, b, s, 13)
}

// TestKnown: P5.1 and P5.2, the known encodings are written and read, alone and behind other bytes.
func TestKnown(t *testing.T) {
	for _, k := range known {
		s := api.Section{Kind: k.kind, Body: []byte(k.body)}
		for _, front := range []string{"", "x", "\x00\x00", example} {
			b, err := Put([]byte(front), s)
			if string(b) != front+k.want || err != api.OK {
				t.Errorf("Put(%q, %d, %q) is %q and %d", front, k.kind, short(s.Body), short(b), err)
			}
		}
		wantGet(t, []byte(k.want), s, len(k.want))
		wantAll(t, []byte(k.want), []api.Section{s})
	}
}

// TestNoBody: P5.1 and P0.5, a body that is nil and one that is empty are the same, and so are bytes in front.
func TestNoBody(t *testing.T) {
	want := mustPut(t, api.Section{Kind: 9})
	for _, body := range [][]byte{nil, {}, make([]byte, 0, 9)} {
		for _, front := range [][]byte{nil, {}, make([]byte, 0, 99)} {
			s := api.Section{Kind: 9, Body: body}
			if b, err := Put(front, s); !bytes.Equal(b, want) || len(b) != nothing || err != api.OK {
				t.Errorf("without a body: %q and %d", b, err)
			}
			wantGet(t, want, s, nothing)
		}
	}
}

// TestNoBytes: P5.1 and P0.5, no bytes at all are too short for a section, but consist of none.
func TestNoBytes(t *testing.T) {
	for _, b := range [][]byte{nil, {}, []byte(example)[:0], make([]byte, 0, 99)} {
		wantNone(t, b, api.ErrShort)
		wantAll(t, b, nil)
	}
}

// TestKinds: P5.1 and P5.2, each kind, with a body and without.
func TestKinds(t *testing.T) {
	for kind := range 256 {
		for _, body := range []string{"", "a", "abc"} {
			s := api.Section{Kind: byte(kind), Body: []byte(body)}
			b := mustPut(t, s)
			if !bytes.Equal(b, slowPut(s)) {
				t.Errorf("the kind %d with %q is %q, not %q", kind, body, b, slowPut(s))
			}
			wantGet(t, b, s, nothing+len(body))
		}
	}
}

// TestOneByte: P5.1 and P5.2, each body of one byte.
func TestOneByte(t *testing.T) {
	for x := range 256 {
		s := api.Section{Kind: 1, Body: []byte{byte(x)}}
		b := mustPut(t, s)
		if !bytes.Equal(b, slowPut(s)) {
			t.Errorf("the body %x is %q, not %q", x, b, slowPut(s))
		}
		wantGet(t, b, s, nothing+1)
	}
}

// TestSizes: P5.1 and P5.2, bodies of all sizes that are allowed, at the edges of a length's bytes.
func TestSizes(t *testing.T) {
	body := someBytes(most)
	for _, n := range sizes {
		s := api.Section{Kind: byte(n), Body: body[:n]}
		b := mustPut(t, s)
		if !bytes.Equal(b, slowPut(s)) {
			t.Errorf("a body of %d bytes is %q", n, short(b))
		}
		wantGet(t, b, s, nothing+n)
		wantAll(t, b, []api.Section{s})
		wantNone(t, b[:len(b)-1], api.ErrShort)
	}
}

// TestPutLong: P5.1, a body that is longer by a byte or more is not put, and what was in front is returned.
func TestPutLong(t *testing.T) {
	for _, n := range []int{most + 1, most + 2, 2 * most, 1 << 24} {
		s := api.Section{Kind: 1, Body: make([]byte, n)}
		for _, front := range []string{"", "x", example} {
			if b, err := Put([]byte(front), s); string(b) != front || err != api.ErrLong {
				t.Errorf("a body of %d bytes behind %q: %q and %d", n, front, short(b), err)
			}
		}
		if b, err := Put(nil, s); len(b) != 0 || err != api.ErrLong {
			t.Errorf("a body of %d bytes: %q and %d", n, short(b), err)
		}
	}
}

// TestShortHead: P5.1, a head, or its checksum, that is incomplete at any length, whatever the bytes are.
func TestShortHead(t *testing.T) {
	for n := range marked {
		for _, k := range known {
			wantNone(t, []byte(k.want)[:n], api.ErrShort)
		}
		wantNone(t, slowHead(0, most+1)[:n], api.ErrShort)
		wantNone(t, slowHead(255, math.MaxUint32)[:n], api.ErrShort)
		wantNone(t, make([]byte, n), api.ErrShort)
		wantNone(t, bytes.Repeat([]byte{0xff}, n), api.ErrShort)
	}
	for n := range 5 { // checksummed bytes, but too few for a head
		wantNone(t, slowMark(make([]byte, n)), api.ErrShort)
	}
}

// TestHeadCorrupt: P5.1, a head whose checksum is wrong, before anything that its length or the body tells.
func TestHeadCorrupt(t *testing.T) {
	good := slowMark([]byte("abc"))
	for _, n := range []uint32{0, 2, 3, 4, 1000, most, most + 1, math.MaxUint32} {
		for _, behind := range [][]byte{nil, good, slowMark([]byte("abd")), []byte("abc"), slowMark(nil)} {
			for i := range marked {
				for bit := range 8 {
					head := slowHead(5, n)
					head[i] ^= 1 << bit
					wantNone(t, slices.Concat(head, behind), api.ErrCorrupt)
				}
			}
		}
	}
	for _, text := range []string{
		"\x03\x03\x00\x00\x00\x93\x37\x22\x23abc\xc2A$5", // the highest byte of a checksum first
		"\x03\x00\x00\x00\x03#\x227\x93abc\xc2A$5",       // the highest byte of a length first
		"\x03\x03\x00\x00\x00\x00\x00\x00\x00abc\xc2A$5", // no checksum
		"\x00\x00\x00\x00\x00\x00\x00\x00\x00\x00\x00\x00\x00",
		"\xff\xff\xff\xff\xff\xff\xff\xff\xff\xff\xff\xff\xff",
		"\x03\x03\x00\x00\x00abc#\x227\x93\xc2A$5", // the checksums side by side
	} {
		wantNone(t, []byte(text), api.ErrCorrupt)
	}
}

// TestGetLong: P5.1, a head that is right and tells of more than is allowed, with bytes behind it and without.
func TestGetLong(t *testing.T) {
	for _, n := range []uint32{most + 1, most + 2, 2 * most, 1 << 24, 1<<31 - 1, 1 << 31, 1<<31 + 1, math.MaxUint32 - 1, math.MaxUint32} {
		head := slowHead(9, n)
		wantNone(t, head, api.ErrLong)
		for _, behind := range [][]byte{{0}, make([]byte, 3), slowMark(nil), slowMark([]byte("abc")), make([]byte, 1000)} {
			wantNone(t, slices.Concat(head, behind), api.ErrLong)
		}
	}
	for _, n := range []int{most + 1, 2 * most} { // whole ones, with both checksums
		b := slowPut(api.Section{Kind: 9, Body: make([]byte, n)})
		wantNone(t, b, api.ErrLong)
		b[len(b)-1] ^= 1
		wantNone(t, b, api.ErrLong)
		b[0] ^= 1
		wantNone(t, b, api.ErrCorrupt)
	}
	wantNone(t, slowHead(9, most), api.ErrShort)
	wantNone(t, slices.Concat(slowHead(9, most), make([]byte, most+3)), api.ErrShort)
	wantNone(t, slices.Concat(slowHead(9, most), slowMark(make([]byte, most-1)), []byte{0}), api.ErrCorrupt)
}

// TestShortBody: P5.1, a body, or its checksum, that is incomplete at any length, whatever its bytes are.
func TestShortBody(t *testing.T) {
	for _, n := range []int{0, 1, 2, 3, 4, 5, 100, 300} {
		whole := slowPut(api.Section{Kind: 200, Body: someBytes(n)})
		for end := marked; end < len(whole); end++ {
			wantNone(t, whole[:end], api.ErrShort)
			wantNone(t, slices.Concat(whole[:marked], make([]byte, end-marked)), api.ErrShort)
			if end >= marked+4 { // checksummed bytes, but too few of them
				wantNone(t, slices.Concat(whole[:marked], slowMark(someBytes(end-marked-4))), api.ErrShort)
			}
		}
	}
}

// TestBodyCorrupt: P5.1, a body whose checksum is wrong, with bytes behind it and without.
func TestBodyCorrupt(t *testing.T) {
	for _, text := range []string{"", "\x00", "a", "abc", "\xff\xff\xff\xff", strings.Repeat("\x00", 50)} {
		good := slowPut(api.Section{Kind: 2, Body: []byte(text)})
		for _, behind := range []string{"", "\x00", example} {
			for i := marked; i < len(good); i++ {
				for bit := range 8 {
					b := []byte(string(good) + behind)
					b[i] ^= 1 << bit
					wantNone(t, b, api.ErrCorrupt)
				}
			}
		}
	}
	for _, text := range []string{
		"\x03\x03\x00\x00\x00#\x227\x93abc5$A\xc2",          // the highest byte first
		"\x03\x03\x00\x00\x00#\x227\x93abc\x00\x00\x00\x00", // no checksum
		"\x03\x03\x00\x00\x00#\x227\x93acb\xc2A$5",
		"\x03\x03\x00\x00\x00#\x227\x93#\x227\x93abc\xc2A$5",
	} {
		wantNone(t, []byte(text), api.ErrCorrupt)
	}
}

// TestBothCorrupt: P5.1, both checksums wrong, each in each byte.
func TestBothCorrupt(t *testing.T) {
	good := slowPut(api.Section{Kind: 2, Body: []byte("abc")})
	for i := range marked {
		for k := marked; k < len(good); k++ {
			b := bytes.Clone(good)
			b[i] ^= 0x10
			b[k] ^= 0x01
			wantNone(t, b, api.ErrCorrupt)
			wantNone(t, b[:k], api.ErrCorrupt)
		}
	}
}

// TestLength: P5.1, a length that was changed: without the checksum of the head, and with it.
func TestLength(t *testing.T) {
	body := []byte("0123456789")
	good := slowPut(api.Section{Kind: 6, Body: body})
	for n := range uint32(400) {
		if n == uint32(len(body)) {
			continue
		}
		b := bytes.Clone(good)
		binary.LittleEndian.PutUint32(b[1:], n)
		wantNone(t, b, api.ErrCorrupt)
		want := api.ErrShort
		if n < uint32(len(body)) {
			want = api.ErrCorrupt
		}
		wantNone(t, append(slowHead(6, n), good[marked:]...), want)
		if n > uint32(len(body)) { // there are bytes enough, but of others
			wantNone(t, slices.Concat(slowHead(6, n), good[marked:], make([]byte, 400)), api.ErrCorrupt)
		}
	}
}

// TestBehind: P5.1, bytes behind a section are not its own, but All does not pass over them.
func TestBehind(t *testing.T) {
	cases := []struct {
		behind string
		want   api.Errno
	}{
		{"", api.OK},
		{"\x00", api.ErrShort},
		{"12345678", api.ErrShort},
		{"123456789", api.ErrCorrupt},
		{strings.Repeat("\x00", 100), api.ErrCorrupt},
		{example, api.OK},
		{example[:12], api.ErrShort},
		{example + "\x01", api.ErrShort},
		{example[:12] + "\x01", api.ErrCorrupt},
		{string(slowHead(1, most+1)), api.ErrLong},
	}
	for _, c := range cases {
		for _, n := range []int{0, 1, 3, 200} {
			s := api.Section{Kind: byte(n), Body: someBytes(n)}
			b := append(mustPut(t, s), c.behind...)
			wantGet(t, b, s, nothing+n)
			if c.want != api.OK {
				wantNotAll(t, b, c.want)
			}
			wantSlow(t, b)
		}
	}
}

// severals are lists of sections.
func severals() [][]api.Section {
	return [][]api.Section{
		{{Kind: 1}},
		{{Kind: 1}, {Kind: 1}},
		{{Kind: 1, Body: []byte("a")}, {Kind: 0}, {Kind: 255, Body: []byte("bc")}},
		{{Kind: 3}, {Kind: 2, Body: someBytes(40)}, {Kind: 1, Body: []byte("z")}, {Kind: 2, Body: someBytes(40)}},
		{{Kind: 9, Body: []byte(example)}, {Kind: 9, Body: []byte(example + example)}, {Kind: 7}},
	}
}

// TestAll: P5.1 and P5.2, several sections behind one another, in their order.
func TestAll(t *testing.T) {
	for _, l := range severals() {
		b := mustPut(t, l...)
		wantAll(t, b, l)
		rest := b
		for _, s := range l {
			wantGet(t, rest, s, nothing+len(s.Body))
			rest = rest[nothing+len(s.Body):]
		}
		if len(rest) != 0 {
			t.Errorf("%q is behind %d sections", rest, len(l))
		}
	}
}

// TestAllGreat: P5.1 and P5.2, sections of the greatest size, and many small ones.
func TestAllGreat(t *testing.T) {
	great := api.Section{Kind: 1, Body: someBytes(most)}
	l := []api.Section{great, {Kind: 2}, great}
	wantAll(t, slices.Concat(slowPut(l[0]), slowPut(l[1]), slowPut(l[2])), l)
	var b []byte
	l = nil
	for x := range numbers(5000) {
		s := api.Section{Kind: byte(x), Body: someBytes(int(x >> 60))}
		l = append(l, s)
		b = append(b, slowPut(s)...)
	}
	wantAll(t, b, l)
	wantNotAll(t, b[:len(b)-1], api.ErrShort)
	b[len(b)-1] ^= 1
	wantNotAll(t, b, api.ErrCorrupt)
}

// TestAllErrors: P5.1 and P0.2, an error in the first section, between, and in the last one: the first one counts, and no section is returned.
func TestAllErrors(t *testing.T) {
	good := slowPut(api.Section{Kind: 1, Body: []byte("abc")})
	headless := append([]byte{2}, good[1:]...)
	bodiless := append(bytes.Clone(good[:len(good)-1]), 0)
	long := slowPut(api.Section{Kind: 1, Body: make([]byte, most+1)})
	cut, cutHead := good[:len(good)-1], good[:8]
	cases := []struct {
		parts [][]byte
		want  api.Errno
	}{
		{[][]byte{headless, good, good}, api.ErrCorrupt},
		{[][]byte{good, headless, good}, api.ErrCorrupt},
		{[][]byte{good, good, headless}, api.ErrCorrupt},
		{[][]byte{bodiless, good, good}, api.ErrCorrupt},
		{[][]byte{good, bodiless, good}, api.ErrCorrupt},
		{[][]byte{good, good, bodiless}, api.ErrCorrupt},
		{[][]byte{long, good, good}, api.ErrLong},
		{[][]byte{good, long, good}, api.ErrLong},
		{[][]byte{good, good, long}, api.ErrLong},
		{[][]byte{cut}, api.ErrShort},
		{[][]byte{good, cut}, api.ErrShort},
		{[][]byte{good, good, cut}, api.ErrShort},
		{[][]byte{good, good, cutHead}, api.ErrShort},
		{[][]byte{cut, good}, api.ErrCorrupt},     // the next byte is taken for the one that is missing
		{[][]byte{cutHead, good}, api.ErrCorrupt}, // as here
		{[][]byte{long, headless, cut}, api.ErrLong},
		{[][]byte{headless, long, cut}, api.ErrCorrupt},
		{[][]byte{good, long, headless, cut}, api.ErrLong},
		{[][]byte{good, bodiless, long, cut}, api.ErrCorrupt},
	}
	for _, c := range cases {
		wantNotAll(t, slices.Concat(c.parts...), c.want)
	}
}

// TestChanged: P5.2, a section of which any one byte was changed, to any other, is not read.
func TestChanged(t *testing.T) {
	for _, s := range []api.Section{{}, {Kind: 7}, {Kind: 255, Body: []byte{0}}, {Kind: 3, Body: []byte("abc")}, {Kind: 1, Body: someBytes(40)}} {
		b := mustPut(t, s)
		for i := range b {
			for change := 1; change < 256; change++ {
				b[i] ^= byte(change)
				wantNone(t, b, api.ErrCorrupt)
				wantNone(t, append(bytes.Clone(b), example...), api.ErrCorrupt)
				b[i] ^= byte(change)
			}
		}
		wantGet(t, b, s, len(b))
	}
}

// TestChangedLarge: P5.2, so it is for a large section, here in some of its places.
func TestChangedLarge(t *testing.T) {
	b := mustPut(t, api.Section{Kind: 5, Body: someBytes(most)})
	l := []int{0, 1, 2, 3, 4, 5, 8, 9, len(b) - 5, len(b) - 4, len(b) - 1}
	for x := range numbers(20) {
		l = append(l, int(x%uint64(len(b))))
	}
	for _, i := range l {
		b[i] ^= 1 << (i % 8)
		wantNone(t, b, api.ErrCorrupt)
		b[i] ^= 1 << (i % 8)
	}
}

// TestChangedAmong: P5.2, so it is where sections stand behind one another: those in front of it are read, but not all.
func TestChangedAmong(t *testing.T) {
	for _, l := range severals() {
		b := mustPut(t, l...)
		for i := range 8 * len(b) {
			b[i/8] ^= 1 << (i % 8)
			wantNotAll(t, b, api.ErrCorrupt)
			wantSlow(t, b)
			b[i/8] ^= 1 << (i % 8)
		}
	}
}

// TestMany: P5.1 and P5.2, many lists of sections, against the specification, whole, cut off, and with bytes changed, left out and put between.
func TestMany(t *testing.T) {
	seen := map[api.Errno]int{}
	for x := range numbers(400) {
		var l []api.Section
		for i := range x % 4 {
			l = append(l, api.Section{Kind: byte(x >> 8), Body: someBytes(int(x >> (16 + 8*i) % 64))})
		}
		b := mustPut(t, l...)
		wantAll(t, b, l)
		if x%8 == 3 {
			b = append(b, slowHead(byte(x), uint32(x>>20))...)
		}
		for i := range b {
			seen[wantSlow(t, b[:i])]++
			seen[wantSlow(t, b[i:])]++
			seen[wantSlow(t, slices.Delete(bytes.Clone(b), i, i+1))]++
			seen[wantSlow(t, slices.Insert(bytes.Clone(b), i, byte(x>>40)))]++
			spoilt := bytes.Clone(b)
			spoilt[i] = byte(x >> 32)
			seen[wantSlow(t, spoilt)]++
		}
	}
	for _, err := range []api.Errno{api.OK, api.ErrShort, api.ErrCorrupt, api.ErrLong} {
		if seen[err] < 20 {
			t.Errorf("only %d of all have the error %d", seen[err], err)
		}
	}
}

// TestAny: P0.1 and P5.1, any bytes, and any behind a head that is right, against the specification.
func TestAny(t *testing.T) {
	for x := range numbers(3000) {
		b := someBytes(int(x % 40))
		for i := range b {
			b[i] ^= byte(x >> (8 * (i % 8)))
		}
		wantSlow(t, b)
		n := uint32(x>>32) >> (x % 33)
		wantSlow(t, append(slowHead(byte(x), n), b...))
		wantSlow(t, append(slowHead(byte(x), n%50), slowMark(b)...))
	}
}

// TestAgain: P0.6, the same arguments have the same results, whatever was called between.
func TestAgain(t *testing.T) {
	s := api.Section{Kind: 3, Body: []byte("abc")}
	want := "\x03\x03\x00\x00\x00#\x227\x93abc\xc2A$5"
	for range 3 {
		if b, err := Put(nil, s); string(b) != want || err != api.OK {
			t.Errorf("once more, it is %q and %d", b, err)
		}
		wantGet(t, []byte(want), s, len(want))
		wantAll(t, []byte(want+want), []api.Section{s, s})
		wantNone(t, []byte(want)[1:], api.ErrCorrupt)
		wantNone(t, nil, api.ErrShort)
		Put(nil, api.Section{Body: make([]byte, most+1)})
	}
}

// TestArgumentsStay: P0.4, no function writes into its arguments, or into their spare capacity.
func TestArgumentsStay(t *testing.T) {
	all := append(bytes.Repeat([]byte(example), 3), "abcdefghijklmnop"...)
	body := []byte("0123456789")
	long := make([]byte, most+1)
	allBefore, bodyBefore := bytes.Clone(all), bytes.Clone(body)
	for n := range all {
		for m := range len(body) + 1 {
			Put(all[:n], api.Section{Kind: 1, Body: body[:m]})
		}
		Put(all[:n], api.Section{Kind: 1, Body: long})
		Get(all[:n])
		All(all[:n])
		if !bytes.Equal(all, allBefore) || !bytes.Equal(body, bodyBefore) {
			t.Fatalf("%q was %q, %q was %q", all, allBefore, body, bodyBefore)
		}
	}
	if slices.Max(long) != 0 {
		t.Errorf("a body that is too long has changed")
	}
}

// spoil writes into all that a result has, its spare capacity too.
func spoil(b []byte) {
	b = b[:cap(b)]
	for i := range b {
		b[i] ^= 0xff
	}
}

// TestPutOwn: P0.4, what Put returns is memory of its own, beside an error too, and stays as it is when the arguments change.
func TestPutOwn(t *testing.T) {
	for _, n := range []int{0, 1, 3, 100, most, most + 1} {
		for _, room := range []int{0, 5, 200} {
			front := append(make([]byte, 0, 5+room), "front"...)
			body := append(make([]byte, 0, n+room), make([]byte, n)...)
			s := api.Section{Kind: 1, Body: body}
			one, err := Put(front, s)
			other, _ := Put(front, s)
			want := bytes.Clone(one)
			spoil(one)
			if string(front) != "front" || n > 0 && slices.Max(body) != 0 || !bytes.Equal(other, want) {
				t.Errorf("%d bytes, with error %d: a result shares memory", n, err)
			}
			spoil(front)
			spoil(body)
			if !bytes.Equal(other, want) {
				t.Errorf("%d bytes, with error %d: a result follows its arguments", n, err)
			}
		}
	}
}

// TestGetOwn: P0.4, so it is for the body that Get returns.
func TestGetOwn(t *testing.T) {
	for _, n := range []int{0, 1, 3, 100} {
		b := append(mustPut(t, api.Section{Kind: 1, Body: someBytes(n)}), example...)
		before := bytes.Clone(b)
		one, _, _ := Get(b)
		other, _, _ := Get(b)
		spoil(one.Body)
		if !bytes.Equal(b, before) || !bytes.Equal(other.Body, someBytes(n)) {
			t.Errorf("%d bytes: a body shares memory", n)
		}
		clear(b)
		if !bytes.Equal(other.Body, someBytes(n)) {
			t.Errorf("%d bytes: a body follows its argument", n)
		}
	}
}

// TestAllOwn: P0.4, so it is for the sections that All returns: no two bodies share anything either.
func TestAllOwn(t *testing.T) {
	for _, l := range severals() {
		b := mustPut(t, l...)
		before := bytes.Clone(b)
		one, _ := All(b)
		other, _ := All(b)
		for i, s := range one {
			if !same(s, l[i]) {
				t.Errorf("body %d shares memory with one in front of it", i)
			}
			spoil(s.Body)
		}
		clear(one[:cap(one)])
		if !bytes.Equal(b, before) || !slices.EqualFunc(other, l, same) {
			t.Errorf("sections share memory")
		}
		clear(b)
		if !slices.EqualFunc(other, l, same) {
			t.Errorf("sections follow their argument")
		}
	}
}
