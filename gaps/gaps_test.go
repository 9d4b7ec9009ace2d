package gaps

import (
	"bytes"
	"encoding/binary"
	"math"
	"math/big"
	"palmer/api"
	"palmer/varint"
	"slices"
	"strings"
	"testing"
)

const (
	lastTo   = math.MaxUint32
	greatest = api.MaxWeight
)

// known are neighbours with their encodings, worked out by hand.
var known = []struct {
	l    []api.Arc
	want string
}{
	{nil, "\x00"},
	{[]api.Arc{{To: 5, Weight: 1}, {To: 7, Weight: 2}}, "\x02\x05\x00\x01\x01"},
	{[]api.Arc{{To: 0, Weight: 1}}, "\x01\x00\x00"},
	{[]api.Arc{{To: 0, Weight: greatest}}, "\x01\x00\xfe\xff\xff\xff\x07"},
	{[]api.Arc{{To: 1, Weight: 2}}, "\x01\x01\x01"},
	{[]api.Arc{{To: 127, Weight: 128}}, "\x01\x7f\x7f"},
	{[]api.Arc{{To: 128, Weight: 129}}, "\x01\x80\x01\x80\x01"},
	{[]api.Arc{{To: lastTo - 1, Weight: greatest - 1}}, "\x01\xfe\xff\xff\xff\x0f\xfd\xff\xff\xff\x07"},
	{[]api.Arc{{To: lastTo, Weight: 1}}, "\x01\xff\xff\xff\xff\x0f\x00"},
	{[]api.Arc{{To: lastTo, Weight: greatest}}, "\x01\xff\xff\xff\xff\x0f\xfe\xff\xff\xff\x07"},
	{[]api.Arc{{To: 0, Weight: 1}, {To: 1, Weight: 1}}, "\x02\x00\x00\x00\x00"},
	{[]api.Arc{{To: 0, Weight: 1}, {To: 2, Weight: 1}}, "\x02\x00\x00\x01\x00"},
	{[]api.Arc{{To: 3, Weight: 1}, {To: 4, Weight: 2}, {To: 5, Weight: 3}, {To: 7, Weight: 1}}, "\x04\x03\x00\x00\x01\x00\x02\x01\x00"},
	{[]api.Arc{{To: 9, Weight: 300}, {To: 10, Weight: 1}, {To: 138, Weight: 1}, {To: 267, Weight: 128}}, "\x04\x09\xab\x02\x00\x00\x7f\x00\x80\x01\x7f"},
	{[]api.Arc{{To: 0, Weight: 1}, {To: lastTo, Weight: 2}}, "\x02\x00\x00\xfe\xff\xff\xff\x0f\x01"},
	{[]api.Arc{{To: lastTo - 1, Weight: 1}, {To: lastTo, Weight: 1}}, "\x02\xfe\xff\xff\xff\x0f\x00\x00\x00"},
	{[]api.Arc{{To: lastTo - 2, Weight: 7}, {To: lastTo, Weight: 8}}, "\x02\xfd\xff\xff\xff\x0f\x06\x01\x07"},
	{[]api.Arc{{To: 4, Weight: 1}, {To: 5, Weight: greatest - 1}}, "\x02\x04\x00\x00\xfd\xff\xff\xff\x07"},
	{[]api.Arc{{To: 4, Weight: greatest - 1}, {To: 6, Weight: 1}}, "\x02\x04\xfd\xff\xff\xff\x07\x01\x00"},
	{[]api.Arc{{To: 0, Weight: 1 << 30}, {To: 1, Weight: 1<<30 - 1}}, "\x02\x00\xff\xff\xff\xff\x03\x00\xfe\xff\xff\xff\x03"},
}

// strangers are arcs that are not neighbours, each of them for one reason.
var strangers = [][]api.Arc{
	{{To: 0, Weight: 0}},
	{{To: 5, Weight: 0}},
	{{To: lastTo, Weight: 0}},
	{{To: 1, Weight: 0}, {To: 2, Weight: 1}},
	{{To: 1, Weight: 1}, {To: 2, Weight: 0}},
	{{To: 1, Weight: 1}, {To: 2, Weight: 0}, {To: 3, Weight: 1}},
	{{To: 1, Weight: greatest + 1}},
	{{To: 1, Weight: math.MaxUint32}},
	{{To: 1, Weight: greatest}, {To: 2, Weight: 1}},
	{{To: 1, Weight: 1}, {To: 2, Weight: greatest}},
	{{To: 1, Weight: greatest}, {To: 2, Weight: greatest}},
	{{To: 1, Weight: 1 << 30}, {To: 2, Weight: 1 << 30}},
	{{To: 1, Weight: 1 << 31}, {To: 2, Weight: 1 << 31}},                             // in 32 bits their sum would be 0
	{{To: 1, Weight: greatest}, {To: 2, Weight: greatest}, {To: 3, Weight: 4}},       // and 2
	{{To: 1, Weight: math.MaxUint32}, {To: 2, Weight: 2}},                            // and 1
	{{To: 1, Weight: 1}, {To: 2, Weight: math.MaxUint32}, {To: 3, Weight: greatest}}, // and MaxWeight
	{{To: 0, Weight: 1}, {To: 0, Weight: 1}},
	{{To: 2, Weight: 1}, {To: 2, Weight: 2}},
	{{To: lastTo, Weight: 1}, {To: lastTo, Weight: 1}},
	{{To: 1, Weight: 1}, {To: 2, Weight: 1}, {To: 2, Weight: 1}},
	{{To: 1, Weight: 1}, {To: 1, Weight: 1}, {To: 2, Weight: 1}},
	{{To: 1, Weight: 1}, {To: 0, Weight: 1}},
	{{To: lastTo, Weight: 1}, {To: 0, Weight: 1}},
	{{To: lastTo, Weight: 1}, {To: lastTo - 1, Weight: 1}},
	{{To: 1, Weight: 1}, {To: 3, Weight: 1}, {To: 2, Weight: 1}},
	{{To: 2, Weight: 1}, {To: 1, Weight: 1}, {To: 3, Weight: 1}},
	{{To: 1, Weight: 1}, {To: 2, Weight: 1}, {To: 1, Weight: 1}},
}

// numbers yields the same numbers in each run, of all lengths.
func numbers(most int) func(func(uint64) bool) {
	return func(yield func(uint64) bool) {
		n := uint64(7)
		for i := range most {
			n = n*6364136223846793005 + 1442695040888963407
			x := (n ^ n>>33) * 0xff51afd7ed558ccd
			if !yield((x ^ x>>29) >> (i % 64)) {
				return
			}
		}
	}
}

// slowSum is the sum of weights in unbounded integers.
func slowSum(l []api.Arc) *big.Int {
	sum := new(big.Int)
	for _, a := range l {
		sum.Add(sum, big.NewInt(int64(a.Weight)))
	}
	return sum
}

// slowMay is what the chapter calls neighbours, each arc against each one behind it.
func slowMay(l []api.Arc) bool {
	for i, a := range l {
		if a.Weight < 1 {
			return false
		}
		for _, b := range l[i+1:] {
			if a.To >= b.To {
				return false
			}
		}
	}
	return slowSum(l).Cmp(big.NewInt(1<<31-1)) <= 0
}

// slowPut is the encoding of neighbours by the chapter, in the library's numbers.
func slowPut(l []api.Arc) []byte {
	b := binary.AppendUvarint(nil, uint64(len(l)))
	for i, a := range l {
		gap := int64(a.To)
		if i > 0 {
			gap = int64(a.To) - int64(l[i-1].To) - 1
		}
		b = binary.AppendUvarint(b, uint64(gap))
		b = binary.AppendUvarint(b, uint64(int64(a.Weight)-1))
	}
	return b
}

// slowGet reads neighbours by the chapter: numbers of any size, and what they make, in unbounded integers.
func slowGet(r *varint.Reader) []api.Arc {
	var l []api.Arc
	number := func(plus int64) *big.Int {
		n := new(big.Int).SetUint64(r.Num(math.MaxUint64))
		return n.Add(n, big.NewInt(plus))
	}
	count := number(0)
	for r.Err() == api.OK && count.Cmp(big.NewInt(int64(len(l)))) > 0 {
		var last api.Arc
		base := int64(0)
		if len(l) > 0 {
			last = l[len(l)-1]
			base = int64(last.To) + 1
		}
		if last.To == lastTo || slowSum(l).Cmp(big.NewInt(greatest)) == 0 {
			if r.Left() == 0 {
				r.Bad(api.ErrShort)
			}
			r.Bad(api.ErrRange)
			return nil
		}
		to := number(base)
		if to.Cmp(big.NewInt(lastTo)) > 0 {
			r.Bad(api.ErrRange)
		}
		weight := number(1)
		if sum := slowSum(l); weight.Cmp(big.NewInt(greatest)) > 0 || sum.Add(sum, weight).Cmp(big.NewInt(greatest)) > 0 {
			r.Bad(api.ErrRange)
		}
		l = append(l, api.Arc{To: uint32(to.Uint64()), Weight: uint32(weight.Uint64())})
	}
	if r.Err() != api.OK {
		return nil
	}
	return l
}

// wantGet: P4.1, neighbours are read from the front of a text, and so much of it is left.
func wantGet(t *testing.T, text string, want []api.Arc, left int) {
	t.Helper()
	for _, front := range []string{"", "\x05", "\x00\xff\xff"} {
		r := varint.New([]byte(front + text))
		r.Bytes(len(front))
		if got := Get(r); !slices.Equal(got, want) || r.Err() != api.OK || r.Left() != left {
			t.Errorf("%q is %v with error %d and %d bytes left, not %v with %d", text, got, r.Err(), r.Left(), want, left)
		}
	}
}

// wantGetBad: P4.1 and P0.2, nothing is read, and the reader is bad with an error, then and later.
func wantGetBad(t *testing.T, text string, want api.Errno) {
	t.Helper()
	for _, front := range []string{"", "\x05", "\x00\xff\xff"} {
		r := varint.New([]byte(front + text))
		r.Bytes(len(front))
		for range 2 {
			if got := Get(r); len(got) != 0 || r.Err() != want || r.End() != want || r.Left() != 0 {
				t.Errorf("%q is %v with error %d and %d bytes left, not error %d", text, got, r.Err(), r.Left(), want)
			}
		}
	}
}

// wantStranger: P4.1, arcs are not neighbours, and putting them returns what was there.
func wantStranger(t *testing.T, l []api.Arc) {
	t.Helper()
	if May(l) {
		t.Errorf("%v may be neighbours", l)
	}
	for _, front := range []string{"", "\x00", "front", "\xff\x80"} {
		if got, err := Put([]byte(front), l); string(got) != front || err != api.ErrForm {
			t.Errorf("Put(%q, %v) is %q and %d", front, l, got, err)
		}
	}
}

// wantSame: P4.1, reading a text comes to what the specification comes to; P4.2, what is read is written in the same way.
func wantSame(t *testing.T, text string) api.Errno {
	t.Helper()
	r, slow := varint.New([]byte(text)), varint.New([]byte(text))
	got, want := Get(r), slowGet(slow)
	if !slices.Equal(got, want) || r.Err() != slow.Err() || r.Left() != slow.Left() || r.End() != slow.End() {
		t.Errorf("%q is %v with error %d and %d bytes left, not %v with %d and %d", text, got, r.Err(), r.Left(), want, slow.Err(), slow.Left())
	}
	if r.Err() != api.OK {
		return r.Err()
	}
	if b, err := Put(nil, got); err != api.OK || string(b) != text[:len(text)-r.Left()] {
		t.Errorf("%q is read as %v, which is written as %q with error %d", text, got, b, err)
	}
	return api.OK
}

// TestExample: P4.1, the example of the chapter.
func TestExample(t *testing.T) {
	l := []api.Arc{{To: 5, Weight: 1}, {To: 7, Weight: 2}}
	if b, err := Put(nil, l); !bytes.Equal(b, []byte{2, 5, 0, 1, 1}) || err != api.OK {
		t.Errorf("the example is encoded as %d, with error %d", b, err)
	}
	r := varint.New([]byte{2, 5, 0, 1, 1})
	if got := Get(r); !slices.Equal(got, l) || r.End() != api.OK {
		t.Errorf("the example is read as %v, with error %d", got, r.End())
	}
	if !May(l) || Sum(l) != 3 {
		t.Errorf("the example may be neighbours: %v, of the sum %d", May(l), Sum(l))
	}
}

// TestPutKnown: P4.1, the encodings of neighbours, by themselves and behind other bytes.
func TestPutKnown(t *testing.T) {
	for _, k := range known {
		if !May(k.l) {
			t.Errorf("%v may not be neighbours", k.l)
		}
		for _, front := range []string{"", "\x00", "\xff\x80", "front"} {
			if got, err := Put([]byte(front), k.l); string(got) != front+k.want || err != api.OK {
				t.Errorf("Put(%q, %v) is %q and %d, not %q", front, k.l, got, err, front+k.want)
			}
		}
	}
}

// TestGetKnown: P4.1 and P4.2, they are read back, whatever follows them.
func TestGetKnown(t *testing.T) {
	for _, k := range known {
		for _, behind := range []string{"", "\x00", "\x80", "\x01\x00\x00", strings.Repeat("\xff", 11)} {
			wantGet(t, k.want+behind, k.l, len(behind))
		}
	}
}

// TestStrangers: P4.1, a weight of 0, a sum that is too great, in more than 32 bits too, arcs out of order, and the same To.
func TestStrangers(t *testing.T) {
	for _, l := range strangers {
		if slowMay(l) {
			t.Errorf("%v are neighbours after all", l)
		}
		wantStranger(t, l)
	}
}

// edgeArcs are arcs whose numbers are at the edges.
func edgeArcs() []api.Arc {
	var l []api.Arc
	for _, to := range []uint32{0, 1, 2, 1 << 31, lastTo - 1, lastTo} {
		for _, weight := range []uint32{0, 1, 2, 1 << 30, greatest - 1, greatest, greatest + 1, math.MaxUint32} {
			l = append(l, api.Arc{To: to, Weight: weight})
		}
	}
	return l
}

// TestEdges: P4.1 and P4.2, all lists of at most three arcs at the edges, against the specification.
func TestEdges(t *testing.T) {
	lists := [][]api.Arc{nil}
	from := 0
	for range 3 {
		shorter := lists[from:]
		from = len(lists)
		for _, l := range shorter {
			for _, a := range edgeArcs() {
				lists = append(lists, append(slices.Clip(l), a))
			}
		}
	}
	neighbours := 0
	for _, l := range lists {
		if got, want := Sum(l), slowSum(l).Uint64(); got != want {
			t.Errorf("the sum of %v is %d, not %d", l, got, want)
		}
		if !slowMay(l) {
			wantStranger(t, l)
			continue
		}
		neighbours++
		want := slowPut(l)
		if got, err := Put(nil, l); !May(l) || err != api.OK || !bytes.Equal(got, want) {
			t.Errorf("Put(nil, %v) is %x and %d, not %x", l, got, err, want)
		}
		wantGet(t, string(want), l, 0)
		wantGet(t, string(want)+"\x80", l, 1)
	}
	if neighbours < 500 || neighbours > len(lists)/2 {
		t.Errorf("%d of %d lists are neighbours", neighbours, len(lists))
	}
}

// TestSum: P4.1, the sum of weights, of arcs that are not neighbours too, and where 32 bits are too few.
func TestSum(t *testing.T) {
	cases := []struct {
		l    []api.Arc
		want uint64
	}{
		{nil, 0},
		{[]api.Arc{}, 0},
		{[]api.Arc{{To: 9, Weight: 0}}, 0},
		{[]api.Arc{{To: 9, Weight: 1}}, 1},
		{[]api.Arc{{To: 9, Weight: greatest}}, greatest},
		{[]api.Arc{{To: 9, Weight: math.MaxUint32}}, math.MaxUint32},
		{[]api.Arc{{To: 9, Weight: 3}, {To: 9, Weight: 4}, {To: 1, Weight: 0}, {To: 0, Weight: 5}}, 12},
		{[]api.Arc{{To: 1, Weight: 1}, {To: 2, Weight: greatest}}, 1 << 31},
		{[]api.Arc{{To: 1, Weight: math.MaxUint32}, {To: 2, Weight: 1}}, 1 << 32},
		{[]api.Arc{{To: 1, Weight: 1 << 31}, {To: 2, Weight: 1 << 31}, {To: 3, Weight: 1}}, 1<<32 + 1},
		{slices.Repeat([]api.Arc{{To: 1, Weight: math.MaxUint32}}, 1000), 1000 * math.MaxUint32},
	}
	for _, c := range cases {
		if got := Sum(c.l); got != c.want {
			t.Errorf("the sum is %d, not %d", got, c.want)
		}
	}
}

// TestNothing: P0.5, nil and empty lists and bytes are the same.
func TestNothing(t *testing.T) {
	arcs := [][]api.Arc{nil, {}, make([]api.Arc, 0, 4)}
	for _, l := range arcs {
		if i, ok := Find(l, 0); i != 0 || ok {
			t.Errorf("among no arcs, 0 is at %d: %v", i, ok)
		}
		if !May(l) || Sum(l) != 0 {
			t.Errorf("no arcs may be neighbours: %v, of the sum %d", May(l), Sum(l))
		}
		for _, b := range [][]byte{nil, {}, make([]byte, 0, 20)} {
			if got, err := Put(b, l); string(got) != "\x00" || err != api.OK {
				t.Errorf("no arcs behind nothing are %x and %d", got, err)
			}
			if got, err := Put(b, []api.Arc{{To: 1}}); len(got) != 0 || err != api.ErrForm {
				t.Errorf("an arc of no weight behind nothing is %x and %d", got, err)
			}
			wantGetBad(t, string(b), api.ErrShort)
		}
	}
}

// TestGetShort: P4.1 and P4.2, the bytes end, in each place: within a number and in front of one.
func TestGetShort(t *testing.T) {
	for _, k := range known {
		for n := range k.want {
			wantGetBad(t, k.want[:n], api.ErrShort)
		}
	}
}

// number is a number's encoding.
func number(n uint64) string {
	return string(binary.AppendUvarint(nil, n))
}

// TestGetCount: P4.1, a number of arcs greater than what follows: it is not an error by itself, how great it may be.
func TestGetCount(t *testing.T) {
	for _, count := range []uint64{3, 127, 128, 1<<31 - 1, 1 << 31, 1<<32 - 1, 1 << 32, 1<<32 + 1, 1<<63 - 1, 1 << 63, math.MaxUint64 - 1, math.MaxUint64} {
		for _, arcs := range []string{"", "\x00\x00", "\x05\x00\x01\x01", "\x05", "\x05\x00\x01", "\x05\x00\x01\x80", "\xff\xff\xff\xff\x0f\x00", "\x00\xfe\xff\xff\xff\x07"} {
			wantGetBad(t, number(count)+arcs, api.ErrShort)
		}
		wantGetBad(t, number(count)+"\xff\xff\xff\xff\x0f\x00\x00", api.ErrRange)
		wantGetBad(t, number(count)+"\x00\xfe\xff\xff\xff\x07\x00", api.ErrRange)
		wantGetBad(t, number(count)+"\x00\x80\x00", api.ErrForm)
	}
}

// TestGetForm: P4.1, a number that is malformed, in each place where one is read.
func TestGetForm(t *testing.T) {
	for _, wrong := range []string{"\x80\x00", "\x81\x80\x00", strings.Repeat("\xff", 9) + "\x02", strings.Repeat("\x80", 10) + "\x01"} {
		for _, behind := range []string{"", "\x00", "\x00\x00\x00\x00\x00"} {
			wantGetBad(t, wrong+behind, api.ErrForm)
			wantGetBad(t, "\x01"+wrong+behind, api.ErrForm)
			wantGetBad(t, "\x01\x05"+wrong+behind, api.ErrForm)
			wantGetBad(t, "\x02\x05\x00"+wrong+behind, api.ErrForm)
			wantGetBad(t, "\x02\x05\x00\x01"+wrong+behind, api.ErrForm)
		}
	}
}

// TestGetTo: P4.1, a gap up to the last vertex, and one that would go beyond it, whatever stands behind it.
func TestGetTo(t *testing.T) {
	for _, to := range []uint32{0, 1, 127, 128, 1 << 31, lastTo - 2, lastTo - 1} {
		front := "\x02" + number(uint64(to)) + "\x00"
		room := uint64(lastTo - to - 1)
		wantGet(t, front+number(room)+"\x00", []api.Arc{{To: to, Weight: 1}, {To: lastTo, Weight: 1}}, 0)
		for _, gap := range []uint64{room + 1, room + 2, lastTo + 1, lastTo + 2, 1 << 33, math.MaxUint64 - uint64(to) - 1, math.MaxUint64 - uint64(to), math.MaxUint64} {
			for _, behind := range []string{"", "\x00", "\x80", "\x80\x00", number(1 << 40)} {
				wantGetBad(t, front+number(gap)+behind, api.ErrRange)
			}
		}
	}
	for _, first := range []uint64{1 << 32, 1<<32 + 1, 1 << 33, math.MaxUint64} {
		for _, behind := range []string{"", "\x00", "\x80", "\x80\x00"} {
			wantGetBad(t, "\x01"+number(first)+behind, api.ErrRange)
		}
	}
}

// TestGetWeight: P4.1, a weight up to MaxWeight, by itself and in the sum, and one that is greater.
func TestGetWeight(t *testing.T) {
	for _, before := range []uint32{0, 1, 2, 1 << 30, greatest - 2, greatest - 1} {
		front, l := "\x01\x05", []api.Arc(nil)
		if before > 0 {
			front, l = "\x02\x05"+number(uint64(before)-1)+"\x00", []api.Arc{{To: 5, Weight: before}}
		}
		room := greatest - before
		l = append(l, api.Arc{To: 5 + uint32(len(l)), Weight: room})
		wantGet(t, front+number(uint64(room)-1), l, 0)
		for _, weight := range []uint64{uint64(room), uint64(room) + 1, 1 << 31, 1<<32 - 1, 1 << 32, 1<<32 + 1, math.MaxUint64 - uint64(before), math.MaxUint64} {
			wantGetBad(t, front+number(weight), api.ErrRange)
			wantGetBad(t, front+number(weight)+"\x00", api.ErrRange)
		}
	}
}

// TestGetSum: P4.1, the sum of many weights is counted from all arcs so far.
func TestGetSum(t *testing.T) {
	var l []api.Arc
	for i := range uint32(31) {
		l = append(l, api.Arc{To: 3 * i, Weight: 1 << (30 - i)})
	}
	text := string(slowPut(l))
	wantGet(t, text, l, 0)
	wantGetBad(t, text[:len(text)-1]+"\x01", api.ErrRange)
	l[0].Weight++
	wantGetBad(t, string(slowPut(l)), api.ErrRange)
}

// TestGetFurther: P4.1, behind the last vertex, or the whole sum, no arc is possible: what is there is not examined.
func TestGetFurther(t *testing.T) {
	for _, arcs := range []string{
		"\xff\xff\xff\xff\x0f\x00",                                 // the last vertex
		"\x00\xfe\xff\xff\xff\x07",                                 // the whole sum
		"\xff\xff\xff\xff\x0f\xfe\xff\xff\xff\x07",                 // both
		"\x00\x00\xfe\xff\xff\xff\x0f\x00",                         // the last vertex, by a gap
		"\x00\x00\x00\xfd\xff\xff\xff\x07",                         // the whole sum, of two weights
		"\x00\xff\xff\xff\xff\x03\x05\xfe\xff\xff\xff\x03",         // the whole sum, of two halves
		"\x00\xff\xff\xff\xff\x03\xfe\xff\xff\xff\x0f\x00",         // the last vertex, half the sum
		"\x00\x00\xfd\xff\xff\xff\x0f\x00\x00\x00",                 // three arcs
		"\x00\x00\x00\x00\x00\xfc\xff\xff\xff\x07",                 // three arcs of the whole sum
		"\xfe\xff\xff\xff\x0f\xfd\xff\xff\xff\x07\x00\x00",         // neighbouring vertices, the last one and the whole sum
		"\xfe\xff\xff\xff\x0f\x00\x00\xfd\xff\xff\xff\x07",         // the same, with the other weight greater
		"\xfd\xff\xff\xff\x0f\x00\x00\x00\x00\xfc\xff\xff\xff\x07", // the same, of three arcs
	} {
		count := uint64(arcsIn(arcs))
		if r := varint.New([]byte(number(count) + arcs)); len(Get(r)) != int(count) || r.End() != api.OK {
			t.Errorf("%q are not %d arcs", arcs, count)
		}
		for _, more := range []uint64{1, 2, 1 << 40} {
			wantGetBad(t, number(count+more)+arcs, api.ErrShort)
			for _, behind := range []string{"\x00", "\x00\x00", "\x80", "\x80\x00", "\x00\x80", "\xff\xff\xff\xff\x0f", strings.Repeat("\xff", 12)} {
				wantGetBad(t, number(count+more)+arcs+behind, api.ErrRange)
			}
		}
	}
}

// arcsIn is how many arcs a text has: half as many as it has last bytes of numbers.
func arcsIn(text string) int {
	last := 0
	for i := range len(text) {
		if text[i] < 0x80 {
			last++
		}
	}
	return last / 2
}

// TestGetOrder: P0.2, the first byte that is wrong counts, and nothing behind it.
func TestGetOrder(t *testing.T) {
	tooFar, tooMuch, wrong := number(1<<32), number(1<<31), "\x80\x00"
	wantGetBad(t, "\x01"+tooFar+wrong, api.ErrRange)
	wantGetBad(t, "\x01"+wrong+tooMuch, api.ErrForm)
	wantGetBad(t, "\x02\x00"+tooMuch+wrong, api.ErrRange)
	wantGetBad(t, "\x02\x00"+wrong+tooFar, api.ErrForm)
	wantGetBad(t, wrong+tooFar, api.ErrForm)
	wantGetBad(t, number(math.MaxUint64)+"\x00\x00"+tooFar, api.ErrRange)
	wantGetBad(t, "\x01"+strings.Repeat("\xff", 9)+"\x02", api.ErrForm) // not a number at all, so not too great a one
}

// TestGetBad: P4.1, a bad reader reads nothing and stays bad as it is.
func TestGetBad(t *testing.T) {
	for _, e := range []api.Errno{math.MinInt, -1, api.ErrArg, api.ErrShort, api.ErrForm, api.ErrCorrupt, api.ErrRange, api.ErrState, math.MaxInt} {
		for _, text := range []string{"", "\x00", "\x02\x05\x00\x01\x01", "\x80\x00", "\x01\xff\xff\xff\xff\x1f"} {
			r := varint.New([]byte(text))
			r.Bad(e)
			for range 2 {
				if got := Get(r); len(got) != 0 || r.Err() != e || r.Left() != 0 {
					t.Errorf("bad with %d, %q is read as %v, with error %d", e, text, got, r.Err())
				}
			}
		}
	}
}

// TestGetNil: P4.1 and P0.1, a nil reader has no neighbours and never becomes bad.
func TestGetNil(t *testing.T) {
	var r *varint.Reader
	for range 2 {
		if got := Get(r); len(got) != 0 || r.Err() != api.OK || r.End() != api.OK {
			t.Errorf("a nil reader reads %v, with error %d", got, r.Err())
		}
	}
}

// texts are all texts of at most some bytes from an alphabet of edges.
func texts(most int) []string {
	l := []string{""}
	for from := 0; most > 0; most-- {
		for _, text := range l[from:] {
			from++
			for _, x := range []string{"\x00", "\x01", "\x02", "\x07", "\x0f", "\x80", "\xff"} {
				l = append(l, text+x)
			}
		}
	}
	return l
}

// TestGetAll: P4.1 and P4.2, all short texts, and all short ends of texts that come near a limit, against the specification.
func TestGetAll(t *testing.T) {
	fronts := []string{
		"",
		"\x01\xff\xff\xff\xff",
		"\x02\x00\x00\xff\xff\xff\xff",
		"\x02\xfe\xff\xff\xff\x0f\x00",
		"\x03\xfd\xff\xff\xff\x0f\x00",
		"\x02\x00\xfd\xff\xff\xff\x07",
		"\x03\x00\xfc\xff\xff\xff\x07",
		"\x02\x00\xfe\xff\xff\xff\x07",
		"\x02\xff\xff\xff\xff\x0f\x00",
		"\x02\x00\x00\x00\xfd\xff\xff\xff",
	}
	kept := map[api.Errno]int{}
	for _, front := range fronts {
		for _, end := range texts(5) {
			kept[wantSame(t, front+end)]++
			if t.Failed() {
				return
			}
		}
	}
	for _, e := range []api.Errno{api.OK, api.ErrShort, api.ErrForm, api.ErrRange} {
		if kept[e] < 1000 {
			t.Errorf("only %d texts came to error %d", kept[e], e)
		}
	}
}

// someArcs are neighbours without a pattern: near and far ones, light and heavy ones, up to the limits.
func someArcs(seed uint64, most int) []api.Arc {
	var l []api.Arc
	least, left := uint64(0), uint64(greatest)
	for x := range numbers(most) {
		x = (x ^ seed) * 0x9e3779b97f4a7c15
		gap, weight := x>>32>>(x%33), 1+x>>33>>(x>>6%32)
		if x>>12%64 == 0 {
			gap = lastTo - min(least, lastTo)
		}
		if x>>12%64 == 1 {
			weight = left
		}
		if least+gap > lastTo || weight > left || left == 0 {
			break
		}
		l = append(l, api.Arc{To: uint32(least + gap), Weight: uint32(weight)})
		least += gap + 1
		left -= weight
	}
	return l
}

// TestLists: P4.1 and P4.2, many lists of neighbours, against the specification, whole, cut off and spoilt in each place.
func TestLists(t *testing.T) {
	lengths := map[int]int{}
	for seed := range numbers(500) {
		l := someArcs(seed, 40)
		lengths[len(l)]++
		b, err := Put(nil, l)
		if !May(l) || err != api.OK || !bytes.Equal(b, slowPut(l)) {
			t.Fatalf("Put(nil, %v) is %x and %d, not %x", l, b, err, slowPut(l))
		}
		wantGet(t, string(b), l, 0)
		for i := range b {
			wantGetBad(t, string(b[:i]), api.ErrShort)
			spoilt := bytes.Clone(b)
			spoilt[i] ^= byte(1 + seed%255)
			wantSame(t, string(spoilt))
		}
		if t.Failed() {
			t.Fatalf("for %v", l)
		}
	}
	if len(lengths) < 20 {
		t.Errorf("the lists have only %d lengths", len(lengths))
	}
}

// TestLong: P4.1 and P4.2, a long list up to the last vertex and of the whole sum, and the same with one weight greater by 1.
func TestLong(t *testing.T) {
	const arcs = 1 << 16
	var l []api.Arc
	for i := range uint32(arcs) {
		l = append(l, api.Arc{To: lastTo - (arcs-1-i)*1000, Weight: (greatest - arcs) / arcs})
	}
	l[0].Weight += greatest - uint32(Sum(l))
	b, err := Put(nil, l)
	if err != api.OK || !bytes.Equal(b, slowPut(l)) {
		t.Fatalf("the encoding of %d arcs has %d bytes, with error %d", arcs, len(b), err)
	}
	wantGet(t, string(b), l, 0)
	l[0].Weight++
	wantStranger(t, l)
	wantGetBad(t, string(slowPut(l)), api.ErrRange)
}

// TestBehindOneAnother: P4.2, lists behind one another, with other numbers between.
func TestBehindOneAnother(t *testing.T) {
	var b []byte
	for seed := range numbers(100) {
		var err api.Errno
		if b, err = Put(varint.Put(b, seed), someArcs(seed, 12)); err != api.OK {
			t.Fatalf("error %d", err)
		}
	}
	r := varint.New(b)
	for seed := range numbers(100) {
		if n, got := r.Num(seed), Get(r); n != seed || !slices.Equal(got, someArcs(seed, 12)) {
			t.Fatalf("behind %d is %v, not %v", n, got, someArcs(seed, 12))
		}
	}
	if r.End() != api.OK {
		t.Errorf("at the end, error %d", r.End())
	}
}

// slowFind is where the chapter says an arc is: behind all that lead to lesser vertices.
func slowFind(l []api.Arc, to uint32) (int, bool) {
	i, ok := 0, false
	for _, a := range l {
		if a.To < to {
			i++
		}
		ok = ok || a.To == to
	}
	return i, ok
}

// TestFind: P4.1, each vertex in front of the arcs, of them, between them and behind them, in lists of each length.
func TestFind(t *testing.T) {
	for arcs := range uint32(20) {
		for _, first := range []uint32{0, 1, 100, lastTo - 2*max(arcs, 1) + 1, lastTo - 2*max(arcs, 1) + 2} {
			var l []api.Arc
			for i := range arcs {
				l = append(l, api.Arc{To: first + 2*i, Weight: 1 + i})
			}
			for to := first - 3; to != first+2*arcs+3; to++ { // past both ends of the vertices too
				i, ok := Find(l, to)
				if want, there := slowFind(l, to); i != want || ok != there {
					t.Errorf("in %v, %d is at %d: %v, not at %d: %v", l, to, i, ok, want, there)
				}
			}
		}
	}
}

// TestFindKnown: P4.1, the first and the last vertex, and places between.
func TestFindKnown(t *testing.T) {
	l := []api.Arc{{To: 0, Weight: 9}, {To: 1, Weight: 1}, {To: 70, Weight: 5}, {To: 1 << 31, Weight: 1}, {To: lastTo, Weight: 2}}
	cases := []struct {
		to uint32
		at int
		ok bool
	}{
		{0, 0, true}, {1, 1, true}, {2, 2, false}, {69, 2, false}, {70, 2, true}, {71, 3, false}, {1<<31 - 1, 3, false},
		{1 << 31, 3, true}, {1<<31 + 1, 4, false}, {lastTo - 1, 4, false}, {lastTo, 4, true},
	}
	for _, c := range cases {
		if i, ok := Find(l, c.to); i != c.at || ok != c.ok {
			t.Errorf("%d is at %d: %v, not at %d: %v", c.to, i, ok, c.at, c.ok)
		}
	}
	if i, ok := Find(l[1:4], 0); i != 0 || ok {
		t.Errorf("0 is at %d: %v", i, ok)
	}
	if i, ok := Find(l[1:4], lastTo); i != 3 || ok {
		t.Errorf("the last vertex is at %d: %v", i, ok)
	}
}

// TestFindMany: P4.1, in lists without a pattern, where each arc is and would be.
func TestFindMany(t *testing.T) {
	for seed := range numbers(300) {
		l := someArcs(seed, 30)
		for _, a := range l {
			for _, to := range []uint32{a.To - 1, a.To, a.To + 1} {
				i, ok := Find(l, to)
				if want, there := slowFind(l, to); i != want || ok != there {
					t.Errorf("in %v, %d is at %d: %v, not at %d: %v", l, to, i, ok, want, there)
				}
			}
		}
	}
}

// TestFindStrangers: P0.1, among arcs that are not neighbours a search ends too.
func TestFindStrangers(t *testing.T) {
	for _, l := range strangers {
		for _, to := range []uint32{0, 1, 2, 3, lastTo - 1, lastTo} {
			if i, ok := Find(l, to); i < 0 || i > len(l) || ok && l[i].To != to {
				t.Errorf("in %v, %d is at %d: %v", l, to, i, ok)
			}
		}
	}
}

// TestArgumentsStay: P0.4, no function writes into its arguments, or into their spare capacity.
func TestArgumentsStay(t *testing.T) {
	all := []byte("\x02\x05\x00\x01\x01abcdefghijklmnop")
	arcs := []api.Arc{{To: 1, Weight: 1}, {To: 5, Weight: 6}, {To: 9, Weight: greatest - 7}, {To: 3, Weight: 1}}
	allBefore, arcsBefore := bytes.Clone(all), slices.Clone(arcs)
	for n := range all {
		for m := range len(arcs) + 1 {
			Put(all[:n], arcs[:m])
			May(arcs[:m])
			Sum(arcs[:m])
			Find(arcs[:m], 5)
		}
		Get(varint.New(all[:n]))
		if !bytes.Equal(all, allBefore) || !slices.Equal(arcs, arcsBefore) {
			t.Fatalf("%q was %q, %v was %v", all, allBefore, arcs, arcsBefore)
		}
	}
}

// spoil writes into all that a result has, its spare capacity too.
func spoil(b []byte) {
	b = b[:cap(b)]
	for i := range b {
		b[i] ^= 0xff
	}
}

// TestPutOwn: P0.4, what Put returns is memory of its own, beside an error too.
func TestPutOwn(t *testing.T) {
	roomy := append(make([]byte, 0, 100), "front"...)
	for _, l := range [][]api.Arc{nil, {{To: 5, Weight: 1}}, {{To: 5, Weight: 0}}} {
		for _, front := range [][]byte{[]byte("front"), roomy} {
			one, err := Put(front, l)
			other, _ := Put(front, l)
			want := string(one)
			spoil(one)
			if string(front) != "front" || string(other) != want {
				t.Errorf("with error %d, a result shares memory: %q, %q", err, front, other)
			}
			spoil(front)
			if string(other) != want {
				t.Errorf("with error %d, %q follows its argument", err, other)
			}
			spoil(front)
		}
	}
}

// TestGetOwn: P0.4, so it is for what Get returns, and a reader has nothing of it.
func TestGetOwn(t *testing.T) {
	b := []byte("\x02\x05\x00\x01\x01\x02\x05\x00\x01\x01\x02\x05\x00\x01\x01")
	want := []api.Arc{{To: 5, Weight: 1}, {To: 7, Weight: 2}}
	r := varint.New(b)
	one, other := Get(r), Get(r)
	clear(one[:cap(one)])
	third := Get(r)
	clear(b)
	if !slices.Equal(other, want) || !slices.Equal(third, want) || r.End() != api.OK {
		t.Errorf("a result shares memory: %v, %v", other, third)
	}
}

// TestArcsNotKept: P0.4, what was put stays as it is when the arcs change.
func TestArcsNotKept(t *testing.T) {
	l := []api.Arc{{To: 5, Weight: 1}, {To: 7, Weight: 2}}
	b, _ := Put(nil, l)
	clear(l)
	if string(b) != "\x02\x05\x00\x01\x01" {
		t.Errorf("what was put is now %q", b)
	}
}
