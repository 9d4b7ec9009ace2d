package crc

import (
	"bytes"
	"hash/crc32"
	"palmer/api"
	"slices"
	"strings"
	"testing"
)

const digits = "123456789"

// slowSum is the specification, bit by bit, without an array.
func slowSum(b []byte) uint32 {
	register := uint32(0xffffffff)
	for _, x := range b {
		register ^= uint32(x)
		for range 8 {
			if register%2 == 1 {
				register = register/2 ^ 0xedb88320
			} else {
				register /= 2
			}
		}
	}
	return ^register
}

// numbers yields the same numbers in each run, of all sizes of 32 bits.
func numbers(most int) func(func(uint32) bool) {
	return func(yield func(uint32) bool) {
		n := uint64(1)
		for range most {
			n = n*6364136223846793005 + 1442695040888963407
			if !yield(uint32(n >> 32)) {
				return
			}
		}
	}
}

// someBytes are n bytes without a pattern.
func someBytes(n int) []byte {
	b := make([]byte, 0, n)
	for x := range numbers(n) {
		b = append(b, byte(x))
	}
	return b
}

// inverted is b with the bits of a pattern inverted, its lowest one at a
// place: the bits are counted as the checksum meets them, that is, from the
// lowest one of each byte.
func inverted(b []byte, place int, pattern uint64) []byte {
	b = bytes.Clone(b)
	for ; pattern != 0; pattern >>= 1 {
		if pattern&1 == 1 {
			b[place/8] ^= 1 << (place % 8)
		}
		place++
	}
	return b
}

// wantCorrupt: P2.1, P2.2 and P0.2, b is rejected, with nothing beside the error.
func wantCorrupt(t *testing.T, b []byte) {
	t.Helper()
	if got, err := Fits(b); err != api.ErrCorrupt || len(got) != 0 {
		t.Errorf("Fits(%x) is %x and %d", b, got, err)
	}
}

// wantFits: P2.1 and P2.2, b is accepted.
func wantFits(t *testing.T, b, want []byte) {
	t.Helper()
	if got, err := Fits(b); err != api.OK || !bytes.Equal(got, want) {
		t.Errorf("Fits(%x) is %x and %d, not %x", b, got, err, want)
	}
}

// TestExample: P2.1, the example of the chapter.
func TestExample(t *testing.T) {
	if got := Sum([]byte(digits)); got != 0xcbf43926 {
		t.Errorf("the checksum of %s is %#x", digits, got)
	}
}

// TestSumKnown: P2.1, against values that are published elsewhere.
func TestSumKnown(t *testing.T) {
	known := []struct {
		text string
		want uint32
	}{
		{"", 0},
		{"\x00", 0xd202ef8d},
		{"\xff", 0xff000000},
		{"a", 0xe8b7be43},
		{"abc", 0x352441c2},
		{"\x00\x00\x00\x00", 0x2144df1c},
		{"\xff\xff\xff\xff", 0xffffffff},
		{strings.Repeat("\x00", 32), 0x190a55ad},
		{strings.Repeat("\xff", 32), 0xff6cab0b},
		{"The quick brown fox jumps over the lazy dog", 0x414fa339},
	}
	for _, k := range known {
		if got := Sum([]byte(k.text)); got != k.want {
			t.Errorf("Sum(%q) is %#x, not %#x", k.text, got, k.want)
		}
	}
}

// TestSumSpecified: P2.1, against the specification, for each byte by itself and for many lengths.
func TestSumSpecified(t *testing.T) {
	var l [][]byte
	for x := range 256 {
		l = append(l, []byte{byte(x)}, []byte{byte(x), 0, 0, 0, 0}, []byte{0xff, byte(x)})
	}
	long := someBytes(700)
	for n := range len(long) {
		l = append(l, long[:n], long[n:])
	}
	for _, b := range l {
		if got, want := Sum(b), slowSum(b); got != want {
			t.Errorf("Sum(%x) is %#x, not %#x", b, got, want)
		}
	}
	b := someBytes(1 << 20)
	if got, want := Sum(b), crc32.ChecksumIEEE(b); got != want {
		t.Errorf("the checksum of %d bytes is %#x, not %#x", len(b), got, want)
	}
}

// TestSumNothing: P2.1 and P0.5, without any bytes the checksum is 0, whatever they are absent from.
func TestSumNothing(t *testing.T) {
	empty := []byte{}
	spare := someBytes(9)[:0]
	cases := [][][]byte{nil, {}, {nil}, {empty}, {spare}, {nil, nil}, {empty, empty}, {nil, empty, spare, nil}}
	for i, l := range cases {
		if got := Sum(l...); got != 0 {
			t.Errorf("case %d: the checksum of nothing is %#x", i, got)
		}
	}
	if got := Sum(); got != 0 {
		t.Errorf("the checksum of no slices is %#x", got)
	}
}

// cut is b in slices: there is a cut behind byte i if bit i of where is set.
func cut(b []byte, where int) [][]byte {
	var l [][]byte
	from := 0
	for i := range b {
		if where>>i&1 == 1 {
			l = append(l, b[from:i+1])
			from = i + 1
		}
	}
	return append(l, b[from:])
}

// TestSumCut: P2.1, wherever the bytes are cut, their checksum is the same, with empty slices between them too.
func TestSumCut(t *testing.T) {
	for where := range 1 << len(digits) {
		l := cut([]byte(digits), where)
		if got := Sum(l...); got != 0xcbf43926 {
			t.Errorf("cut into %q, the checksum is %#x", l, got)
		}
		wide := [][]byte{nil}
		for _, b := range l {
			wide = append(wide, []byte{}, b, nil)
		}
		if got := Sum(wide...); got != 0xcbf43926 {
			t.Errorf("cut into %q, the checksum is %#x", wide, got)
		}
	}
}

// TestSumOrder: P2.1, the slices count in the order in which they are given, each as often as it is given.
func TestSumOrder(t *testing.T) {
	a, b := []byte("12"), []byte("345")
	cases := []struct {
		l    [][]byte
		text string
	}{
		{[][]byte{a, b}, "12345"},
		{[][]byte{b, a}, "34512"},
		{[][]byte{a, a}, "1212"},
		{[][]byte{a, b, a, b}, "1234512345"},
	}
	for _, c := range cases {
		if got, want := Sum(c.l...), slowSum([]byte(c.text)); got != want {
			t.Errorf("Sum(%q) is %#x, not %#x", c.l, got, want)
		}
	}
}

// TestSumMany: P2.1, any number of slices can be given.
func TestSumMany(t *testing.T) {
	b := someBytes(100000)
	if got, want := Sum(slices.Collect(slices.Chunk(b, 1))...), slowSum(b); got != want {
		t.Errorf("in %d slices, the checksum is %#x, not %#x", len(b), got, want)
	}
}

// TestAgain: P0.6, the same arguments have the same checksum, whatever was called between.
func TestAgain(t *testing.T) {
	for range 3 {
		if got := Sum([]byte(digits)); got != 0xcbf43926 {
			t.Errorf("once more, the checksum is %#x", got)
		}
		Mark(someBytes(50))
		Fits(someBytes(50))
		Fits(nil)
	}
}

// TestMarkKnown: P2.1, the bytes are followed by their checksum, the lowest byte first.
func TestMarkKnown(t *testing.T) {
	known := []struct{ text, want string }{
		{"", "\x00\x00\x00\x00"},
		{"a", "a\x43\xbe\xb7\xe8"},
		{digits, digits + "\x26\x39\xf4\xcb"},
		{"\xff\xff\xff\xff", "\xff\xff\xff\xff\xff\xff\xff\xff"},
	}
	for _, k := range known {
		if got := Mark([]byte(k.text)); string(got) != k.want {
			t.Errorf("Mark(%q) is %q, not %q", k.text, got, k.want)
		}
	}
	if got := Mark(nil); string(got) != "\x00\x00\x00\x00" {
		t.Errorf("Mark(nil) is %q", got)
	}
}

// TestFitsAccepts: P2.2, checksummed bytes are accepted, and are what was checksummed.
func TestFitsAccepts(t *testing.T) {
	long := someBytes(300)
	for n := range len(long) + 1 {
		wantFits(t, Mark(long[:n]), long[:n])
		wantFits(t, Mark(Mark(long[:n])), Mark(long[:n]))
	}
}

// TestFitsShort: P2.1, fewer than four bytes are too short, whatever they are.
func TestFitsShort(t *testing.T) {
	for _, b := range [][]byte{nil, {}, {0}, {0, 0}, {0, 0, 0}, {1, 2, 3}, {0xff, 0xff, 0xff}, make([]byte, 3, 9), Mark(nil)[:3], Mark([]byte(digits))[:3]} {
		if got, err := Fits(b); err != api.ErrShort || len(got) != 0 {
			t.Errorf("Fits(%x) is %x and %d", b, got, err)
		}
	}
}

// TestFitsFour: P2.1, just four bytes are the checksum of nothing, or corrupt.
func TestFitsFour(t *testing.T) {
	wantFits(t, []byte{0, 0, 0, 0}, nil)
	for x := range numbers(1000) {
		b := []byte{byte(x), byte(x >> 8), byte(x >> 16), byte(x >> 24)}
		if x != 0 {
			wantCorrupt(t, b)
		}
	}
	wantCorrupt(t, []byte{0xff, 0xff, 0xff, 0xff})
	wantCorrupt(t, []byte("\x1c\xdf\x44\x21")) // what checksummed bytes have as their own checksum
}

// TestFitsRejects: P2.1, bytes whose last four are not the checksum of all the others.
func TestFitsRejects(t *testing.T) {
	for _, text := range []string{
		digits,
		digits + "\xcb\xf4\x39\x26",     // the highest byte first
		digits + "\xd9\xc6\x0b\x34",     // the bits not inverted at the end
		digits + "\x26\x39\xf4",         // a byte is absent
		digits + "\x26\x39\xf4\xcb\x00", // a byte too many
		digits[1:] + "\x26\x39\xf4\xcb",
		"0" + digits + "\x26\x39\xf4\xcb",
		"\x00" + digits + "\x26\x39\xf4\xcb", // only a register that starts with bits set sees a zero in front
		"213456789\x26\x39\xf4\xcb",
	} {
		wantCorrupt(t, []byte(text))
	}
}

// TestFitsOneBit: P2.2, any one bit that differs, in the bytes or in their checksum.
func TestFitsOneBit(t *testing.T) {
	for _, n := range []int{0, 1, 2, 9, 124} {
		marked := Mark(someBytes(n))
		for place := range 8 * len(marked) {
			wantCorrupt(t, inverted(marked, place, 1))
		}
	}
}

// TestFitsOneByte: P2.2, any one byte that differs, in any way.
func TestFitsOneByte(t *testing.T) {
	marked := Mark([]byte(digits))
	for i := range marked {
		for pattern := range uint64(256) {
			if pattern != 0 {
				wantCorrupt(t, inverted(marked, 8*i, pattern))
			}
		}
	}
}

// TestFitsBurst: P2.2, bits within 32 consecutive ones, from any place on: two of them, all of them, and many choices.
func TestFitsBurst(t *testing.T) {
	marked := Mark(someBytes(12))
	for width := 2; width <= 32; width++ {
		ends := uint64(1)<<(width-1) | 1
		all := uint64(1)<<width - 1
		for place := 0; place+width <= 8*len(marked); place++ {
			wantCorrupt(t, inverted(marked, place, ends))
			wantCorrupt(t, inverted(marked, place, all))
			for x := range numbers(8) {
				wantCorrupt(t, inverted(marked, place, ends|uint64(x)&all))
			}
		}
	}
}

// difference is by what the checksum of b's bytes and the one behind them differ.
func difference(b []byte) uint32 {
	n := len(b) - 4
	stored := uint32(b[n]) | uint32(b[n+1])<<8 | uint32(b[n+2])<<16 | uint32(b[n+3])<<24
	return Sum(b[:n]) ^ stored
}

// independent says whether no choice of the numbers, but that of none, has the exclusive-or 0.
func independent(l []uint32) bool {
	var byTop [32]uint32
	for _, n := range l {
		for top := 31; top >= 0; top-- {
			if n>>top&1 == 0 {
				continue
			}
			if byTop[top] == 0 {
				byTop[top] = n
				break
			}
			n ^= byTop[top]
		}
		if n == 0 {
			return false
		}
	}
	return true
}

// TestFitsEveryBurst: P2.2, for every pattern within 32 bits: what inverted
// bits do to the difference is the exclusive-or of what each one does, and
// that is never 0 if the effects of the 32 bits are independent.
func TestFitsEveryBurst(t *testing.T) {
	marked := Mark(someBytes(40))
	var effects []uint32
	for place := range 8 * len(marked) {
		effects = append(effects, difference(inverted(marked, place, 1)))
	}
	for place := 0; place+32 <= len(effects); place++ {
		if !independent(effects[place : place+32]) {
			t.Errorf("some bits within 32 from bit %d on are not seen", place)
		}
	}
	for x := range numbers(1000) {
		place := int(x % uint32(8*len(marked)-32))
		want := uint32(0)
		for i := range 32 {
			if x>>i&1 == 1 {
				want ^= effects[place+i]
			}
		}
		if got := difference(inverted(marked, place, uint64(x))); got != want {
			t.Errorf("the bits %#x from bit %d on make a difference of %#x, not %#x", x, place, got, want)
		}
	}
}

// TestFitsBeyondBurst: P2.1, the first and the last bit 32 places apart is one
// too many: the polynomial itself is 33 bits and is not seen, all others are.
func TestFitsBeyondBurst(t *testing.T) {
	const unseen = 0xedb88320<<1 | 1
	marked := Mark(someBytes(12))
	for place := 0; place+33 <= 8*len(marked); place++ {
		b := inverted(marked, place, unseen)
		wantFits(t, b, b[:12])
		for bit := range 33 {
			wantCorrupt(t, inverted(marked, place, unseen^1<<bit))
		}
	}
}

// withSpare is b in front of spare capacity, and all of its memory.
func withSpare(b []byte) (front, all []byte) {
	all = append(bytes.Clone(b), "spare capacity"...)
	return all[:len(b)], all
}

// TestArgumentsStay: P0.4, no function writes into its arguments, or into their spare capacity.
func TestArgumentsStay(t *testing.T) {
	for _, b := range [][]byte{{}, []byte(digits), Mark([]byte(digits)), someBytes(200)} {
		front, all := withSpare(b)
		before := bytes.Clone(all)
		l := make([][]byte, 3, 9)
		l[0], l[2] = front, front
		Sum(front)
		Sum(l...)
		Mark(front)
		Fits(front)
		if !bytes.Equal(all, before) {
			t.Errorf("%x was %x", all, before)
		}
		if len(l[0]) != len(b) || l[1] != nil || len(l[2]) != len(b) || slices.ContainsFunc(l[3:cap(l)], func(b []byte) bool { return b != nil }) {
			t.Errorf("the list of slices has changed: %x", l[:cap(l)])
		}
	}
}

// spoil writes into all that a result has, its spare capacity too.
func spoil(b []byte) {
	b = b[:cap(b)]
	for i := range b {
		b[i] ^= 0xff
	}
}

// TestResultsOwn: P0.4, writing into a result changes neither an argument nor another result.
func TestResultsOwn(t *testing.T) {
	for _, n := range []int{0, 1, 9, 200} {
		body := someBytes(n)
		front, all := withSpare(Mark(body))
		before := bytes.Clone(all)
		first, _ := Fits(front)
		second, _ := Fits(front)
		spoil(first)
		if !bytes.Equal(all, before) || !bytes.Equal(second, body) {
			t.Errorf("%d bytes: a result of Fits shares memory", n)
		}

		front, all = withSpare(body)
		before = bytes.Clone(all)
		one, other := Mark(front), Mark(front)
		spoil(one)
		if !bytes.Equal(all, before) {
			t.Errorf("%d bytes: a result of Mark shares memory with its argument", n)
		}
		wantFits(t, other, body)
	}
}

// TestArgumentsNotKept: P0.4, a result stays as it is when the argument changes.
func TestArgumentsNotKept(t *testing.T) {
	body := []byte(digits)
	marked := Mark(body)
	got, _ := Fits(marked)
	clear(body)
	wantFits(t, marked, []byte(digits))
	clear(marked)
	if string(got) != digits {
		t.Errorf("what Fits returned is now %q", got)
	}
}
