package varint

import (
	"bytes"
	"math"
	"math/big"
	"palmer/api"
	"slices"
	"strings"
	"testing"
)

const greatest uint64 = math.MaxUint64

// known are numbers with their encodings, worked out by hand: at each edge between one length and the next, and between.
var known = []struct {
	n    uint64
	want string
}{
	{0, "\x00"},
	{1, "\x01"},
	{100, "\x64"},
	{127, "\x7f"},
	{128, "\x80\x01"},
	{129, "\x81\x01"},
	{255, "\xff\x01"},
	{256, "\x80\x02"},
	{300, "\xac\x02"},
	{1<<14 - 1, "\xff\x7f"},
	{1 << 14, "\x80\x80\x01"},
	{624485, "\xe5\x8e\x26"},
	{1<<21 - 1, "\xff\xff\x7f"},
	{1 << 21, "\x80\x80\x80\x01"},
	{1<<28 - 1, "\xff\xff\xff\x7f"},
	{1 << 28, "\x80\x80\x80\x80\x01"},
	{1<<32 - 1, "\xff\xff\xff\xff\x0f"},
	{1 << 32, "\x80\x80\x80\x80\x10"},
	{1<<35 - 1, "\xff\xff\xff\xff\x7f"},
	{1 << 35, "\x80\x80\x80\x80\x80\x01"},
	{1<<42 - 1, "\xff\xff\xff\xff\xff\x7f"},
	{1 << 42, "\x80\x80\x80\x80\x80\x80\x01"},
	{1<<49 - 1, "\xff\xff\xff\xff\xff\xff\x7f"},
	{1 << 49, "\x80\x80\x80\x80\x80\x80\x80\x01"},
	{1<<56 - 1, "\xff\xff\xff\xff\xff\xff\xff\x7f"},
	{1 << 56, "\x80\x80\x80\x80\x80\x80\x80\x80\x01"},
	{1<<63 - 1, "\xff\xff\xff\xff\xff\xff\xff\xff\x7f"},
	{1 << 63, "\x80\x80\x80\x80\x80\x80\x80\x80\x80\x01"},
	{1<<63 + 1, "\x81\x80\x80\x80\x80\x80\x80\x80\x80\x01"},
	{greatest - 1, "\xfe\xff\xff\xff\xff\xff\xff\xff\xff\x01"},
	{greatest, "\xff\xff\xff\xff\xff\xff\xff\xff\xff\x01"},
}

// knownSigned are signed numbers with their encodings.
var knownSigned = []struct {
	n    int64
	want string
}{
	{0, "\x00"},
	{-1, "\x01"},
	{1, "\x02"},
	{-2, "\x03"},
	{2, "\x04"},
	{63, "\x7e"},
	{-64, "\x7f"},
	{64, "\x80\x01"},
	{-65, "\x81\x01"},
	{150, "\xac\x02"},
	{-150, "\xab\x02"},
	{1<<31 - 1, "\xfe\xff\xff\xff\x0f"},
	{-1 << 31, "\xff\xff\xff\xff\x0f"},
	{1<<62 - 1, "\xfe\xff\xff\xff\xff\xff\xff\xff\x7f"},
	{-1 << 62, "\xff\xff\xff\xff\xff\xff\xff\xff\x7f"},
	{1 << 62, "\x80\x80\x80\x80\x80\x80\x80\x80\x80\x01"},
	{-1<<62 - 1, "\x81\x80\x80\x80\x80\x80\x80\x80\x80\x01"},
	{math.MaxInt64 - 1, "\xfc\xff\xff\xff\xff\xff\xff\xff\xff\x01"},
	{math.MinInt64 + 1, "\xfd\xff\xff\xff\xff\xff\xff\xff\xff\x01"},
	{math.MaxInt64, "\xfe\xff\xff\xff\xff\xff\xff\xff\xff\x01"},
	{math.MinInt64, "\xff\xff\xff\xff\xff\xff\xff\xff\xff\x01"},
}

// numbers yields the same numbers in each run, of all lengths.
func numbers(most int) func(func(uint64) bool) {
	return func(yield func(uint64) bool) {
		n := uint64(1)
		for i := range most {
			n = n*6364136223846793005 + 1442695040888963407
			x := (n ^ n>>33) * 0xff51afd7ed558ccd
			if !yield((x ^ x>>29) >> (i % 64)) {
				return
			}
		}
	}
}

// slowPut is the encoding of a number by the chapter, in unbounded integers.
func slowPut(n *big.Int) []byte {
	var b []byte
	n = new(big.Int).Set(n)
	for {
		rest := new(big.Int)
		n.DivMod(n, big.NewInt(128), rest)
		if n.Sign() == 0 {
			return append(b, byte(rest.Int64()))
		}
		b = append(b, byte(rest.Int64()+128))
	}
}

// slowZigzag is what the chapter says a signed number is encoded as.
func slowZigzag(n int64) *big.Int {
	x := big.NewInt(n)
	twice := new(big.Int).Mul(new(big.Int).Abs(x), big.NewInt(2))
	if x.Sign() < 0 {
		twice.Sub(twice, big.NewInt(1))
	}
	return twice
}

// slowReader is the chapter's reader, by offsets into a text.
type slowReader struct {
	text string
	at   int
	err  api.Errno
}

// number reads a number in unbounded integers.
func (r *slowReader) number(most uint64) *big.Int {
	n := new(big.Int)
	if r.err != api.OK {
		return n
	}
	for i := 0; ; i++ {
		if r.at+i == len(r.text) {
			r.err = api.ErrShort
			return new(big.Int)
		}
		x := r.text[r.at+i]
		n.Add(n, new(big.Int).Lsh(big.NewInt(int64(x%128)), uint(7*i)))
		if x == 0 && i > 0 || n.BitLen() > 64 || i == 10 {
			r.err = api.ErrForm
			return new(big.Int)
		}
		if x/128 == 1 {
			continue
		}
		if n.Cmp(new(big.Int).SetUint64(most)) > 0 {
			r.err = api.ErrRange
			return new(big.Int)
		}
		r.at += i + 1
		return n
	}
}

func (r *slowReader) num(most uint64) uint64 {
	return r.number(most).Uint64()
}

func (r *slowReader) signed() int64 {
	n := r.number(greatest)
	if n.Bit(0) == 0 {
		return n.Rsh(n, 1).Int64()
	}
	n.Add(n, big.NewInt(1))
	return n.Neg(n.Rsh(n, 1)).Int64()
}

func (r *slowReader) bytes(n int) string {
	switch {
	case r.err != api.OK:
	case n < 0:
		r.err = api.ErrArg
	case n > len(r.text)-r.at:
		r.err = api.ErrShort
	default:
		r.at += n
		return r.text[r.at-n : r.at]
	}
	return ""
}

func (r *slowReader) left() int {
	if r.err != api.OK {
		return 0
	}
	return len(r.text) - r.at
}

func (r *slowReader) bad(e api.Errno) {
	if r.err == api.OK {
		r.err = e
	}
}

func (r *slowReader) end() api.Errno {
	if r.left() > 0 {
		return api.ErrLong
	}
	return r.err
}

// wantState: P3.1, what Left, Err and End answer.
func wantState(t *testing.T, r *Reader, left int, err, end api.Errno) {
	t.Helper()
	if r.Left() != left || r.Err() != err || r.End() != end {
		t.Errorf("%d bytes left, error %d, at the end %d, not %d, %d, %d", r.Left(), r.Err(), r.End(), left, err, end)
	}
}

// wantBad: P3.1 and P0.2, a reader is bad with an error, and reads nothing, whatever is asked of it.
func wantBad(t *testing.T, r *Reader, err api.Errno) {
	t.Helper()
	for range 2 {
		wantState(t, r, 0, err, err)
		if n := r.Num(greatest); n != 0 {
			t.Errorf("a bad reader reads the number %d", n)
		}
		if n := r.Num(0); n != 0 {
			t.Errorf("a bad reader reads the number %d", n)
		}
		if n := r.Signed(); n != 0 {
			t.Errorf("a bad reader reads the signed number %d", n)
		}
		for _, n := range []int{math.MinInt, -1, 0, 1, 2, math.MaxInt} {
			if b := r.Bytes(n); len(b) != 0 {
				t.Errorf("a bad reader reads %d bytes: %x", n, b)
			}
		}
		for e := range api.ErrState + 1 {
			r.Bad(e)
		}
	}
}

// wantReadBad: P3.1, reading a number makes a reader bad, and the number is 0; so it is behind other bytes and in front of others.
func wantReadBad(t *testing.T, text string, most uint64, want api.Errno) {
	t.Helper()
	for _, front := range []string{"", "\x05", "\x00\x00\xff"} {
		r := New([]byte(front + text))
		if got := r.Bytes(len(front)); string(got) != front {
			t.Errorf("%q is in front, not %q", got, front)
		}
		if n := r.Num(most); n != 0 || r.Err() != want {
			t.Errorf("%q is %d with error %d, not error %d", text, n, r.Err(), want)
		}
		wantBad(t, r, want)
	}
}

// TestExample: P3.1, the example of the chapter.
func TestExample(t *testing.T) {
	if got := Put(nil, 300); !bytes.Equal(got, []byte{172, 2}) {
		t.Errorf("300 is encoded as %d", got)
	}
	r := New([]byte{172, 2})
	if got := r.Num(300); got != 300 {
		t.Errorf("the bytes of 300 are %d", got)
	}
	wantState(t, r, 0, api.OK, api.OK)
}

// TestPutKnown: P3.1, the encodings of numbers of one byte to ten, by themselves and behind other bytes.
func TestPutKnown(t *testing.T) {
	for _, k := range known {
		for _, front := range []string{"", "\x00", "\xff\x80", "front"} {
			if got := Put([]byte(front), k.n); string(got) != front+k.want {
				t.Errorf("Put(%q, %d) is %q, not %q", front, k.n, got, front+k.want)
			}
		}
	}
}

// TestPutSignedKnown: P3.1, the encodings of signed numbers, those at both ends among them.
func TestPutSignedKnown(t *testing.T) {
	for _, k := range knownSigned {
		for _, front := range []string{"", "\x00", "\xff\x80", "front"} {
			if got := PutSigned([]byte(front), k.n); string(got) != front+k.want {
				t.Errorf("PutSigned(%q, %d) is %q, not %q", front, k.n, got, front+k.want)
			}
		}
	}
}

// TestPutNothing: P0.5, nil and empty bytes are the same in front of a number.
func TestPutNothing(t *testing.T) {
	for _, b := range [][]byte{nil, {}, make([]byte, 0, 20)} {
		if got := Put(b, 128); string(got) != "\x80\x01" {
			t.Errorf("behind nothing, 128 is %x", got)
		}
		if got := PutSigned(b, -65); string(got) != "\x81\x01" {
			t.Errorf("behind nothing, -65 is %x", got)
		}
	}
}

// edges are all numbers that are a power of two, or one or two beside it.
func edges() []uint64 {
	var l []uint64
	for bit := range 64 {
		power := uint64(1) << bit
		l = append(l, power-2, power-1, power, power+1, power+2, -power)
	}
	return l
}

// TestPutSpecified: P3.1 and P3.2, against the specification, at all edges and for many numbers: what is written is read back.
func TestPutSpecified(t *testing.T) {
	for _, n := range slices.AppendSeq(edges(), numbers(20000)) {
		want := slowPut(new(big.Int).SetUint64(n))
		b := Put(nil, n)
		if !bytes.Equal(b, want) {
			t.Errorf("Put(nil, %d) is %x, not %x", n, b, want)
		}
		r := New(b)
		if got := r.Num(n); got != n {
			t.Errorf("%d is read back as %d", n, got)
		}
		wantState(t, r, 0, api.OK, api.OK)
	}
}

// TestPutSignedSpecified: P3.1 and P3.2, the same for signed numbers.
func TestPutSignedSpecified(t *testing.T) {
	for _, x := range slices.AppendSeq(edges(), numbers(20000)) {
		for _, n := range []int64{int64(x), -int64(x)} {
			want := slowPut(slowZigzag(n))
			b := PutSigned(nil, n)
			if !bytes.Equal(b, want) {
				t.Errorf("PutSigned(nil, %d) is %x, not %x", n, b, want)
			}
			r := New(b)
			if got := r.Signed(); got != n {
				t.Errorf("%d is read back as %d", n, got)
			}
			wantState(t, r, 0, api.OK, api.OK)
		}
	}
}

// TestNumKnown: P3.1, numbers are read up to their last byte, whatever follows.
func TestNumKnown(t *testing.T) {
	for _, k := range known {
		for _, behind := range []string{"", "\x00", "\x80", "\xff\xff", strings.Repeat("\x80", 12)} {
			for _, most := range []uint64{k.n, greatest} {
				r := New([]byte(k.want + behind))
				if got := r.Num(most); got != k.n {
					t.Errorf("%q is %d, not %d", k.want, got, k.n)
				}
				end := api.OK
				if behind != "" {
					end = api.ErrLong
				}
				wantState(t, r, len(behind), api.OK, end)
				if got := r.Bytes(len(behind)); string(got) != behind {
					t.Errorf("behind the number is %q, not %q", got, behind)
				}
			}
		}
	}
}

// TestSignedKnown: P3.1, signed numbers, and what follows them.
func TestSignedKnown(t *testing.T) {
	for _, k := range knownSigned {
		r := New([]byte(k.want + "\x80"))
		if got := r.Signed(); got != k.n {
			t.Errorf("%q is %d, not %d", k.want, got, k.n)
		}
		wantState(t, r, 1, api.OK, api.ErrLong)
	}
}

// TestNumRange: P3.1, the greatest number that is asked for is read, and none that is greater.
func TestNumRange(t *testing.T) {
	for _, k := range known {
		if k.n == 0 {
			continue
		}
		for _, most := range []uint64{0, k.n / 2, k.n - 1} {
			wantReadBad(t, k.want, most, api.ErrRange)
			wantReadBad(t, k.want+"\x01", most, api.ErrRange)
		}
	}
	r := New([]byte{0, 1})
	if got := r.Num(0); got != 0 {
		t.Errorf("0 is read as %d", got)
	}
	wantState(t, r, 1, api.OK, api.ErrLong)
}

// TestNumShort: P3.1, the bytes end in front of a number, or within one, in each place.
func TestNumShort(t *testing.T) {
	wantReadBad(t, "", greatest, api.ErrShort)
	wantReadBad(t, "", 0, api.ErrShort)
	for _, k := range known {
		for n := range k.want {
			wantReadBad(t, k.want[:n], greatest, api.ErrShort)
			wantReadBad(t, k.want[:n], 0, api.ErrShort) // so it is too where the bits so far are above the most
		}
	}
	for n := range 11 {
		wantReadBad(t, strings.Repeat("\x80", n), greatest, api.ErrShort)
	}
	wantReadBad(t, strings.Repeat("\xff", 9)+"\x80", greatest, api.ErrShort)
	wantReadBad(t, strings.Repeat("\xff", 9)+"\x81", greatest, api.ErrShort)
}

// TestNumZero: P3.1, a later byte that is 0, in each place, whatever stands in front of it and behind.
func TestNumZero(t *testing.T) {
	for n := 1; n <= 9; n++ {
		for _, x := range []string{"\x80", "\x81", "\xff"} {
			for _, behind := range []string{"", "\x00", "\x01", "\xff"} {
				wantReadBad(t, strings.Repeat(x, n)+"\x00"+behind, greatest, api.ErrForm)
				wantReadBad(t, strings.Repeat(x, n)+"\x00"+behind, 0, api.ErrForm)
			}
		}
	}
}

// TestNumTenth: P3.1, the tenth byte has room for one bit, whether another byte follows or not.
func TestNumTenth(t *testing.T) {
	for _, x := range []string{"\x80", "\xff"} {
		front := strings.Repeat(x, 9)
		for tenth := range 256 {
			text := front + string([]byte{byte(tenth)})
			switch {
			case tenth == 1:
				r := New([]byte(text))
				if got := r.Num(greatest); got < 1<<63 || r.Err() != api.OK {
					t.Errorf("%q is %d, with error %d", text, got, r.Err())
				}
			case tenth == 0x80 || tenth == 0x81:
				wantReadBad(t, text, greatest, api.ErrShort)
			default:
				wantReadBad(t, text, greatest, api.ErrForm)
				wantReadBad(t, text, 0, api.ErrForm)
				wantReadBad(t, text+"\x01", greatest, api.ErrForm)
			}
		}
	}
}

// TestNumEleventh: P3.1, any eleventh byte is one too many.
func TestNumEleventh(t *testing.T) {
	for _, front := range []string{strings.Repeat("\x80", 10), strings.Repeat("\xff", 9) + "\x80", strings.Repeat("\xff", 9) + "\x81"} {
		for eleventh := range 256 {
			text := front + string([]byte{byte(eleventh)})
			wantReadBad(t, text, greatest, api.ErrForm)
			wantReadBad(t, text+"\x01", 0, api.ErrForm)
		}
	}
}

// TestSignedBad: P3.1, a signed number has the errors of a number, but no maximum.
func TestSignedBad(t *testing.T) {
	cases := []struct {
		text string
		want api.Errno
	}{
		{"", api.ErrShort},
		{"\x80", api.ErrShort},
		{strings.Repeat("\xff", 9) + "\x81", api.ErrShort},
		{"\x80\x00", api.ErrForm},
		{"\x81\x80\x00\x01", api.ErrForm},
		{strings.Repeat("\xff", 9) + "\x02", api.ErrForm},
		{strings.Repeat("\xff", 9) + "\x81\x01", api.ErrForm},
	}
	for _, c := range cases {
		r := New([]byte(c.text))
		if n := r.Signed(); n != 0 || r.Err() != c.want {
			t.Errorf("%q is %d with error %d, not error %d", c.text, n, r.Err(), c.want)
		}
		wantBad(t, r, c.want)
	}
}

// TestBytes: P3.1, bytes are read as they are, in any portions.
func TestBytes(t *testing.T) {
	const text = "\x00\x80\xff0123456789"
	for first := range len(text) + 1 {
		for second := range len(text) - first + 1 {
			r := New([]byte(text))
			if got := r.Bytes(first); string(got) != text[:first] {
				t.Errorf("the first %d bytes are %q", first, got)
			}
			if got := r.Bytes(second); string(got) != text[first:first+second] {
				t.Errorf("behind %d bytes, %d bytes are %q", first, second, got)
			}
			end := api.OK
			if first+second < len(text) {
				end = api.ErrLong
			}
			wantState(t, r, len(text)-first-second, api.OK, end)
		}
	}
}

// TestBytesBad: P3.1, a negative count of bytes, and one that is greater than what is left.
func TestBytesBad(t *testing.T) {
	for left := range 4 {
		for _, n := range []int{math.MinInt, math.MinInt + 1, -2, -1, left + 1, left + 2, math.MaxInt - 1, math.MaxInt} {
			want := api.ErrShort
			if n < 0 {
				want = api.ErrArg
			}
			r := New([]byte("abcdef"))
			r.Bytes(6 - left)
			if got := r.Bytes(n); len(got) != 0 || r.Err() != want {
				t.Errorf("with %d bytes left, %d bytes are %q with error %d", left, n, got, r.Err())
			}
			wantBad(t, r, want)
		}
	}
}

// TestNothingLeft: P3.1 and P0.5, a reader of nothing is not bad, but cannot read a number.
func TestNothingLeft(t *testing.T) {
	for _, b := range [][]byte{nil, {}, make([]byte, 0, 9)} {
		r := New(b)
		wantState(t, r, 0, api.OK, api.OK)
		if got := r.Bytes(0); len(got) != 0 {
			t.Errorf("no bytes are %x", got)
		}
		wantState(t, r, 0, api.OK, api.OK)
		r.Num(greatest)
		wantBad(t, r, api.ErrShort)
	}
}

// TestBad: P3.1, a reader is made bad with any error, and stays bad with the first one; OK is none.
func TestBad(t *testing.T) {
	for _, e := range []api.Errno{math.MinInt, -1, api.ErrArg, api.ErrShort, api.ErrForm, api.ErrCorrupt, api.ErrState, 99, 100, math.MaxInt} {
		for _, text := range []string{"", "\x01", "abc"} {
			r := New([]byte(text))
			r.Bad(e)
			wantBad(t, r, e)
		}
	}
	r := New([]byte("\x07\x01\x01"))
	r.Bad(api.OK)
	wantState(t, r, 3, api.OK, api.ErrLong)
	if got := r.Num(7); got != 7 {
		t.Errorf("made bad with OK, it reads %d", got)
	}
	r.Bad(api.OK)
	r.Bad(api.ErrLong)
	r.Bad(api.OK)
	wantBad(t, r, api.ErrLong)
}

// TestEnd: P3.1, bytes that are left are an error at the end, but do not make the reader bad.
func TestEnd(t *testing.T) {
	r := New([]byte("\x03\xac\x02\x00"))
	for i, want := range []uint64{3, 300, 0} {
		wantState(t, r, []int{4, 3, 1}[i], api.OK, api.ErrLong)
		if got := r.Num(1000); got != want {
			t.Errorf("number %d is %d, not %d", i, got, want)
		}
	}
	wantState(t, r, 0, api.OK, api.OK)
}

// TestNil: P3.1 and P0.1, a nil reader has no bytes and never becomes bad.
func TestNil(t *testing.T) {
	var r *Reader
	for range 2 {
		for _, n := range []int{math.MinInt, -1, 0, 1, math.MaxInt} {
			if got := r.Bytes(n); len(got) != 0 {
				t.Errorf("a nil reader reads %x", got)
			}
		}
		if n := r.Num(greatest); n != 0 {
			t.Errorf("a nil reader reads %d", n)
		}
		if n := r.Num(0); n != 0 {
			t.Errorf("a nil reader reads %d", n)
		}
		if n := r.Signed(); n != 0 {
			t.Errorf("a nil reader reads %d", n)
		}
		r.Bad(api.ErrForm)
		r.Bad(api.OK)
		wantState(t, r, 0, api.OK, api.OK)
	}
}

// texts are all texts of at most some bytes from an alphabet of edges.
func texts(most int) []string {
	l := []string{""}
	for from := 0; most > 0; most-- {
		for _, text := range l[from:] {
			from++
			for _, x := range []string{"\x00", "\x01", "\x02", "\x7f", "\x80", "\x81", "\x82", "\xff"} {
				l = append(l, text+x)
			}
		}
	}
	return l
}

// TestNumAll: P3.1 and P3.2, all short texts, and all ends of long numbers, against the specification: what is read is written in the same way.
func TestNumAll(t *testing.T) {
	for _, front := range []string{"", "\x80\x80\x80\x80\x80\x80\x80\x80", "\xff\xff\xff\xff\xff\xff\xff\xff\xff"} {
		for _, end := range texts(4) {
			text := front + end
			for _, most := range []uint64{0, 127, 128, 1 << 20, 1<<63 - 1, greatest} {
				r, slow := New([]byte(text)), &slowReader{text: text}
				got := r.Num(most)
				if want := slow.num(most); got != want || r.Err() != slow.err || r.Left() != slow.left() || r.End() != slow.end() {
					t.Errorf("%q up to %d is %d with error %d, not %d with error %d", text, most, got, r.Err(), want, slow.err)
				}
				if r.Err() == api.OK && string(Put(nil, got)) != text[:slow.at] {
					t.Errorf("%q is read as %d, which is written as %q", text, got, Put(nil, got))
				}
			}
			r := New([]byte(text))
			got := r.Signed()
			if used := len(text) - r.Left(); r.Err() == api.OK && string(PutSigned(nil, got)) != text[:used] {
				t.Errorf("%q is read as %d, which is written as %q", text, got, PutSigned(nil, got))
			}
		}
	}
}

// someText is a text of numbers and bytes, now and then with one byte spoilt or cut off.
func someText(x uint64) string {
	var b []byte
	for n := range numbers(int(x % 40)) {
		switch n ^= x; n % 5 {
		case 0:
			b = PutSigned(b, int64(n))
		case 1:
			b = append(b, byte(n>>8))
		default:
			b = Put(b, n>>(n>>3%64))
		}
	}
	if len(b) > 0 && x%3 == 0 {
		b[x/3%uint64(len(b))] = byte(x >> 7)
	}
	return string(b)
}

// TestSequences: P3.1, many sequences of calls, against the specification.
func TestSequences(t *testing.T) {
	kept := map[api.Errno]int{}
	for x := range numbers(6000) {
		text := someText(x)
		r, slow := New([]byte(text)), &slowReader{text: text}
		for call := range numbers(int(x >> 7 % 40)) {
			call = (call ^ x) * 0x9e3779b97f4a7c15 >> 20
			wantSameCall(t, r, slow, call)
			if t.Failed() {
				t.Fatalf("at byte %d of %q, call %#x", slow.at, text, call)
			}
		}
		kept[slow.err]++
	}
	for _, e := range []api.Errno{api.OK, api.ErrArg, api.ErrShort, api.ErrForm, api.ErrRange, api.ErrState} {
		if kept[e] < 50 {
			t.Errorf("only %d sequences of calls came to error %d", kept[e], e)
		}
	}
}

// wantSameCall: P3.1, one call, and what it leaves, are those of the specification.
func wantSameCall(t *testing.T, r *Reader, slow *slowReader, call uint64) {
	t.Helper()
	switch which := call % 50; {
	case which < 24:
		most := greatest >> (call / 50 % 16)
		if got, want := r.Num(most), slow.num(most); got != want {
			t.Errorf("Num(%d) is %d, not %d", most, got, want)
		}
	case which < 34:
		if got, want := r.Signed(), slow.signed(); got != want {
			t.Errorf("Signed() is %d, not %d", got, want)
		}
	case which < 48:
		n := int(call/50%128) - 1
		if n > 3 {
			n %= 3
		}
		if got, want := r.Bytes(n), slow.bytes(n); string(got) != want {
			t.Errorf("Bytes(%d) is %q, not %q", n, got, want)
		}
	case which == 48:
		r.Bad(api.OK)
		slow.bad(api.OK)
	case call/50%8 == 0:
		r.Bad(api.ErrState)
		slow.bad(api.ErrState)
	}
	wantState(t, r, slow.left(), slow.err, slow.end())
}

// TestLists: P3.2, numbers, signed numbers and bytes behind one another are read back, and written in the same way.
func TestLists(t *testing.T) {
	var b []byte
	for n := range numbers(300) {
		b = Put(b, n)
		b = PutSigned(b, -int64(n))
		b = append(b, byte(n), 0x80)
	}
	r := New(b)
	var again []byte
	for n := range numbers(300) {
		plain, signed, raw := r.Num(n), r.Signed(), r.Bytes(2)
		if plain != n || signed != -int64(n) || !bytes.Equal(raw, []byte{byte(n), 0x80}) {
			t.Fatalf("%d is read back as %d, %d and %x", n, plain, signed, raw)
		}
		again = append(PutSigned(Put(again, plain), signed), raw...)
	}
	wantState(t, r, 0, api.OK, api.OK)
	if !bytes.Equal(again, b) {
		t.Errorf("what is read is written in another way")
	}
}

// TestReadersApart: P0.6, two readers of the same bytes know nothing of each other.
func TestReadersApart(t *testing.T) {
	b := []byte("\x01\x02\x03")
	one, other := New(b), New(b)
	one.Num(1)
	one.Num(0)
	wantBad(t, one, api.ErrRange)
	wantState(t, other, 3, api.OK, api.ErrLong)
	if got := other.Num(1); got != 1 {
		t.Errorf("the other reader starts with %d", got)
	}
}

// TestArgumentsStay: P0.4, no function writes into its argument, or into its spare capacity.
func TestArgumentsStay(t *testing.T) {
	all := []byte("\x80\x01\x05abcdefghijklmnop")
	before := bytes.Clone(all)
	for n := range all {
		front := all[:n]
		Put(front, 0)
		Put(front, greatest)
		PutSigned(front, math.MinInt64)
		r := New(front)
		r.Num(greatest)
		r.Signed()
		spoil(r.Bytes(2))
		r.Bad(api.ErrForm)
		if !bytes.Equal(all, before) {
			t.Fatalf("%q was %q", all, before)
		}
	}
}

// spoil writes into all that a result has, its spare capacity too.
func spoil(b []byte) {
	b = b[:cap(b)]
	for i := range b {
		b[i] ^= 0xff
	}
}

// TestResultsOwn: P0.4, writing into a result changes neither another result nor what a reader has left.
func TestResultsOwn(t *testing.T) {
	front := []byte("front")
	one, other := Put(front, 300), Put(front, 300)
	spoil(one)
	if string(front) != "front" || string(other) != "front\xac\x02" {
		t.Errorf("a result of Put shares memory: %q, %q", front, other)
	}
	one, other = PutSigned(front, 150), PutSigned(front, 150)
	spoil(one)
	if string(front) != "front" || string(other) != "front\xac\x02" {
		t.Errorf("a result of PutSigned shares memory: %q, %q", front, other)
	}
}

// TestBytesOwn: P0.4, so it is for the bytes that are read, where a reader goes on, and where it starts again.
func TestBytesOwn(t *testing.T) {
	b := []byte("abcdef")
	r := New(b)
	first := r.Bytes(2)
	spoil(first)
	second := r.Bytes(2)
	if string(second) != "cd" || string(b) != "abcdef" {
		t.Errorf("a result of Bytes shares memory: %q, %q", second, b)
	}
	spoil(r.Bytes(0))
	spoil(second)
	if got := r.Bytes(2); string(got) != "ef" {
		t.Errorf("a result of Bytes shares memory with what is left: %q", got)
	}
	wantState(t, r, 0, api.OK, api.OK)
	if got := New(b).Bytes(6); string(got) != "abcdef" {
		t.Errorf("a result of Bytes shares memory with the argument of New: %q", got)
	}
}

// TestArgumentsNotKept: P0.4, a reader and a result stay as they are when the argument changes.
func TestArgumentsNotKept(t *testing.T) {
	b := []byte("\xac\x02\x05abc")
	r := New(b)
	put := Put(b, 1)
	clear(b)
	if got := r.Num(300); got != 300 {
		t.Errorf("the bytes of 300 are now %d", got)
	}
	b[2], b[3] = 0x80, 0x80
	if n, got := r.Num(5), r.Bytes(3); n != 5 || string(got) != "abc" {
		t.Errorf("what is left is now %d and %q", n, got)
	}
	if string(put) != "\xac\x02\x05abc\x01" {
		t.Errorf("what Put returned is now %q", put)
	}
}
