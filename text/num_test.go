package text

import (
	"bytes"
	"math"
	"math/big"
	"palmer/api"
	"slices"
	"strings"
	"testing"
)

// all is the greatest number, that no number may be too great for.
const all = math.MaxUint64

// edges are numbers beside which something changes: their digits, their bits, or that a limit of the program is there.
func edges() []uint64 {
	l := []uint64{0, api.MaxWeight, math.MaxUint32, math.MaxInt64, all}
	for n := uint64(1); n < all/10; n *= 10 {
		l = append(l, n, 10*n, 9*n)
	}
	for i := range 64 {
		l = append(l, 1<<i)
	}
	for _, n := range slices.Clone(l) {
		l = append(l, n-1, n+1) // round about 0 as well
	}
	slices.Sort(l)
	return slices.Compact(l)
}

// slowNum is the number of a word in unbounded integers: a word is a number if that is how the number is written.
func slowNum(word string, most uint64) (uint64, api.Errno) {
	n, ok := new(big.Int).SetString(word, 10)
	switch {
	case !ok || n.Sign() < 0 || n.String() != word:
		return 0, api.ErrForm
	case n.Cmp(new(big.Int).SetUint64(most)) > 0:
		return 0, api.ErrRange
	}
	return n.Uint64(), api.OK
}

// wantNum says which number a word is.
func wantNum(t *testing.T, word string, most, want uint64) {
	t.Helper()
	if n, err := Num(word, most); n != want || err != api.OK {
		t.Errorf("Num(%q, %d) is %d and %d, not %d", word, most, n, err, want)
	}
}

// wantNoNum: P11.1 and P0.2, a word is no number, or too great a one, and beside the error is 0.
func wantNoNum(t *testing.T, word string, most uint64, want api.Errno) {
	t.Helper()
	if n, err := Num(word, most); n != 0 || err != want {
		t.Errorf("Num(%q, %d) is %d and %d, not error %d", word, most, n, err, want)
	}
}

// wantNever says that a word is no number, whatever it may be at most.
func wantNever(t *testing.T, word string) {
	t.Helper()
	for _, most := range []uint64{0, 1, 9, 10, 1000, math.MaxUint32, all - 1, all} {
		wantNoNum(t, word, most, api.ErrForm)
	}
}

// TestNumExample: P11.1, the example of the chapter.
func TestNumExample(t *testing.T) {
	wantNoNum(t, "007", 10, api.ErrForm)
}

// TestNumKnown: P11.1, numbers up to what they are at most, and above.
func TestNumKnown(t *testing.T) {
	for _, most := range []uint64{0, 1, 9, 10, all} {
		wantNum(t, "0", most, 0)
	}
	for digit := range uint64(10) {
		word := string(rune('0' + digit))
		wantNum(t, word, 9, digit)
		wantNum(t, "1"+word, 19, 10+digit)
		wantNum(t, "90"+word, all, 900+digit)
	}
	wantNoNum(t, "1", 0, api.ErrRange)
	wantNum(t, "1", 1, 1)
	wantNum(t, "10", 10, 10)
	wantNoNum(t, "10", 9, api.ErrRange)
	wantNoNum(t, "11", 10, api.ErrRange)
	wantNum(t, "65536", 65536, 65536)
	wantNoNum(t, "65537", 65536, api.ErrRange)
	wantNum(t, "4294967295", math.MaxUint32, math.MaxUint32)
	wantNoNum(t, "4294967296", math.MaxUint32, api.ErrRange)
	wantNum(t, "9223372036854775808", all, 1<<63)
	wantNum(t, "18446744073709551615", all, all)
	wantNoNum(t, "18446744073709551615", all-1, api.ErrRange)
	wantNoNum(t, "18446744073709551616", all, api.ErrRange)
}

// TestNumZeros: P11.1, a number has no leading zeros, and 0 alone is one.
func TestNumZeros(t *testing.T) {
	wantNever(t, "")
	for _, word := range []string{"00", "01", "000", "007", "010", "00000000000000000000", "018446744073709551616"} {
		wantNever(t, word)
	}
	for n := range 30 {
		wantNever(t, strings.Repeat("0", n)+"00")
		wantNever(t, strings.Repeat("0", n)+"01")
		wantNoNum(t, "1"+strings.Repeat("0", n+20), all, api.ErrRange)
	}
	wantNum(t, "10000000000000000000", all, 10000000000000000000)
}

// TestNumNone: P11.1, signs, blanks and what another program may read as a number make none.
func TestNumNone(t *testing.T) {
	for _, word := range []string{
		"-", "+", "-0", "+0", "-1", "+1", "--1", "1-", "1+", "1-1", "-18446744073709551616",
		" ", "\t", " 1", "1 ", "1 1", "\t1", "1\t", "1\n", "\n1", "1\r", "\r", "\x00", "1\x00", "\x001",
		"a", "x1", "1x", "1x1", "0x1", "0b1", "0o7", "0x", "1e3", "1e", "1.0", ".1", "1.", "1,000", "1_000", "_1", "1_", "0_1",
		"inf", "nan", "#1", "/", ":", "1/", "1:", "/1", ":1",
		"\x80", "\xff", "1\xff", "\xb1", "1\xb1", "\xb0", "٣", "1٣", "１", "1１", "²", "Ⅷ", "\ufeff1", "1\u00a0",
	} {
		wantNever(t, word)
	}
}

// TestNumBytes: P11.1, a byte that is no digit, at the front of a word, within it, at its end or by itself.
func TestNumBytes(t *testing.T) {
	for x := range 256 {
		s := string([]byte{byte(x)})
		if x >= '0' && x <= '9' {
			wantNum(t, s, 9, uint64(x-'0'))
			wantNum(t, "1"+s+"2", 192, 102+10*uint64(x-'0'))
			continue
		}
		for _, word := range []string{s, s + "1", "1" + s, "1" + s + "2", "0" + s, s + "0", s + s, "123456789" + s + "123456789"} {
			wantNever(t, word)
		}
	}
}

// TestNumFormFirst: P11.1 and P0.2, what is no number is not too great, however great its digits are.
func TestNumFormFirst(t *testing.T) {
	for _, digits := range []string{"9", "10", "18446744073709551615", "18446744073709551616", "99999999999999999999999", strings.Repeat("9", 1000)} {
		for _, wrong := range []string{"x", "-", " ", "\xff", "\n", "."} {
			for at := 0; at <= len(digits); at += max(1, len(digits)/25) {
				wantNever(t, digits[:at]+wrong+digits[at:])
			}
			wantNever(t, digits+wrong)
		}
		wantNever(t, "0"+digits)
	}
}

// TestNumMost: P11.1, each number is read where it is what a number is at most, and above, and not below.
func TestNumMost(t *testing.T) {
	for _, n := range edges() {
		word := new(big.Int).SetUint64(n).String()
		wantNum(t, word, n, n)
		wantNum(t, word, all, n)
		if n < all {
			wantNum(t, word, n+1, n)
		}
		if n > 0 {
			wantNoNum(t, word, n-1, api.ErrRange)
			wantNoNum(t, word, n/2, api.ErrRange)
			wantNoNum(t, word, 0, api.ErrRange)
		}
	}
}

// TestNumLong: P11.1, numbers above 64 bits, of any number of digits: the lowest bits of many of them are a small number.
func TestNumLong(t *testing.T) {
	top := new(big.Int).Lsh(big.NewInt(1), 64)
	for factor := range int64(120) {
		for _, more := range []int64{0, 1, 5, 10} {
			x := new(big.Int).Mul(top, big.NewInt(factor+1))
			x.Add(x, big.NewInt(more))
			for _, most := range []uint64{0, 1, 5, 10, math.MaxUint32, all - 1, all} {
				wantNoNum(t, x.String(), most, api.ErrRange)
			}
		}
	}
	for _, digits := range []int{20, 21, 22, 38, 39, 40, 100, 1000, 100000} {
		for _, first := range []string{"1", "2", "9"} {
			for _, digit := range []string{"0", "1", "9"} {
				word := first + strings.Repeat(digit, digits-1)
				for _, most := range []uint64{0, 9, all} {
					if n, err := slowNum(word, most); err == api.OK {
						wantNum(t, word, most, n)
					} else {
						wantNoNum(t, word, most, api.ErrRange)
					}
				}
			}
		}
	}
	for last := range 10 { // the twenty digits at the greatest number, and those ten times as great
		word := "1844674407370955161" + string(rune('0'+last))
		n, err := Num(word, all)
		if want, wantErr := slowNum(word, all); n != want || err != wantErr {
			t.Errorf("Num(%q) is %d and %d, not %d and %d", word, n, err, want, wantErr)
		}
		wantNoNum(t, word+"0", all, api.ErrRange)
		wantNoNum(t, "184467440737095516150"+word, all, api.ErrRange)
	}
}

// TestNumEach: P11.1, each short word of digits and other bytes, against the chapter in unbounded integers.
func TestNumEach(t *testing.T) {
	for word := range texts(5, "0", "1", "7", "9", "-", " ", "_") {
		for _, most := range []uint64{0, 1, 9, 10, 99, 711, 10000, all} {
			n, err := Num(word, most)
			if want, wantErr := slowNum(word, most); n != want || err != wantErr {
				t.Errorf("Num(%q, %d) is %d and %d, not %d and %d", word, most, n, err, want, wantErr)
			}
		}
	}
}

// TestPutKnown: P11.1, numbers behind nothing, and behind bytes.
func TestPutKnown(t *testing.T) {
	known := []struct {
		n    uint64
		want string
	}{
		{0, "0"}, {1, "1"}, {9, "9"}, {10, "10"}, {11, "11"}, {99, "99"}, {100, "100"}, {101, "101"}, {1070, "1070"}, {65536, "65536"},
		{math.MaxUint32, "4294967295"}, {math.MaxInt64, "9223372036854775807"}, {1 << 63, "9223372036854775808"},
		{1e19, "10000000000000000000"}, {all - 1, "18446744073709551614"}, {all, "18446744073709551615"},
	}
	for _, k := range known {
		for _, front := range []string{"", "a", "0", "12", "a line\n", "\xff\x00", strings.Repeat("front ", 1000)} {
			for _, spare := range []int{0, 1, 2, 19, 20, 21, 100} {
				b := append(make([]byte, 0, len(front)+spare), front...)
				if got := Put(b, k.n); string(got) != front+k.want {
					t.Errorf("Put(%q, %d) is %q", front, k.n, got)
				}
			}
		}
		if got := Put(nil, k.n); string(got) != k.want {
			t.Errorf("Put(nil, %d) is %q", k.n, got)
		}
		if got := Put([]byte{}, k.n); string(got) != k.want {
			t.Errorf("Put of %d behind an empty slice is %q", k.n, got)
		}
	}
}

// TestPutSpecified: P11.1, against the digits of unbounded integers, for all small numbers and at all edges.
func TestPutSpecified(t *testing.T) {
	l := edges()
	for n := range uint64(11000) {
		l = append(l, n, n*1844674407370955, n*n*n*n)
	}
	for _, n := range l {
		want := new(big.Int).SetUint64(n).String()
		if got := Put([]byte("n "), n); string(got) != "n "+want {
			t.Errorf("%d is written as %q", n, got)
		}
	}
}

// TestPutSpare: P0.4, neither b nor what is behind it in its memory is changed, however much room is there.
func TestPutSpare(t *testing.T) {
	whole := bytes.Repeat([]byte("s"), 60)
	for _, n := range []uint64{0, 9, 10, 99, 100, all} {
		for from := range 3 {
			for to := from; to <= len(whole); to++ {
				if got, want := Put(whole[from:to], n), new(big.Int).SetUint64(n).String(); string(got) != string(whole[from:to])+want {
					t.Errorf("Put of %d behind %d bytes is %q", n, to-from, got)
				}
				if want := strings.Repeat("s", len(whole)); string(whole) != want {
					t.Fatalf("Put of %d behind byte %d wrote into its argument: %q", n, to, whole)
				}
			}
		}
	}
}

// TestPutOwn: P0.4, what Put returned follows neither its argument nor another result.
func TestPutOwn(t *testing.T) {
	for _, b := range [][]byte{nil, {}, []byte("ab"), append(make([]byte, 0, 100), "ab"...)} {
		front := string(b)
		one, other := Put(b, 1234), Put(b, 5678)
		one[0] = 'x'
		_ = append(one, "more"...)
		clear(one[:cap(one)])
		if string(b) != front || string(other) != front+"5678" {
			t.Errorf("behind %q, one result has changed the argument to %q, or the other to %q", front, b, other)
		}
		clear(b[:cap(b)])
		if string(other) != front+"5678" {
			t.Errorf("behind %q, a result follows its argument: %q", front, other)
		}
	}
}

// TestReadBack: P11.2, a number that was written is read back if it may be so great, and not if it may not.
func TestReadBack(t *testing.T) {
	l := edges()
	for n := range uint64(3000) {
		l = append(l, n, n*6148914691236517)
	}
	for _, n := range l {
		word := string(Put(nil, n))
		wantNum(t, word, n, n)
		wantNum(t, word, all, n)
		if n > 0 {
			wantNoNum(t, word, n-1, api.ErrRange)
		}
	}
}

// TestReadBackLines: P11.2, so it is for numbers that were written as the words of lines.
func TestReadBackLines(t *testing.T) {
	l := edges()
	var b []byte
	for i, n := range l {
		b = append(Put(b, n), ' ')
		b = append(Put(b, uint64(i)), '\n')
	}
	lines := 0
	for number, line := range Lines(b) {
		lines++
		words := Words(line)
		if len(words) != 2 {
			t.Fatalf("line %d has the words %q", number, words)
		}
		wantNum(t, words[0], all, l[number-1])
		wantNum(t, words[1], uint64(len(l)), uint64(number-1))
	}
	if lines != len(l) {
		t.Errorf("%d lines of %d numbers", lines, len(l))
	}
}
