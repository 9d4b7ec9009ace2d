package alias

import (
	"math"
	"palmer/api"
	"palmer/varint"
	"slices"
	"strings"
	"testing"
)

// knownCells are cells with their encodings.
var knownCells = []struct {
	cells []api.Cell
	want  string
}{
	{nil, ""},
	{table(0, 0), "\x00\x00"},
	{table(2, 1), "\x02\x01"},
	{table(2, 1, 4, 1), "\x02\x01\x04\x01"},
	{table(127, 128), "\x7f\x80\x01"},
	{table(128, 127), "\x80\x01\x7f"},
	{table(300, 0, 0, 300, 5, 5), "\xac\x02\x00\x00\xac\x02\x05\x05"},
	{table(greatest, 1, 2, 0), "\xff\xff\xff\xff\x07\x01\x02\x00"},
	{table(1<<32, last), "\x80\x80\x80\x80\x10\xff\xff\xff\xff\x0f"},
	{table(most, last, most, last), strings.Repeat("\xff\xff\xff\xff\xff\xff\xff\xff\xff\x01\xff\xff\xff\xff\x0f", 2)},
}

// TestPutKnown: P16.1, the encodings of cells, none, one and several, of the least and the greatest numbers, by themselves and behind other bytes.
func TestPutKnown(t *testing.T) {
	for _, k := range knownCells {
		for _, before := range []string{"", "\x00", "\xff\x80", "front"} {
			if got := Put([]byte(before), k.cells); string(got) != before+k.want {
				t.Errorf("Put(%q, %v) is %q, not %q", before, k.cells, got, before+k.want)
			}
		}
	}
}

// TestPutNothing: P16.1 and P0.5, nil and empty cells and bytes are the same.
func TestPutNothing(t *testing.T) {
	for _, cells := range [][]api.Cell{nil, {}, make([]api.Cell, 0, 4)} {
		for _, b := range [][]byte{nil, {}, make([]byte, 0, 9)} {
			if got := Put(b, cells); len(got) > 0 {
				t.Errorf("no cells behind nothing are %q", got)
			}
			if got := Put(b, table(5, 6)); string(got) != "\x05\x06" {
				t.Errorf("a cell behind nothing is %q", got)
			}
		}
		if got := Put([]byte("front"), cells); string(got) != "front" {
			t.Errorf("no cells behind bytes are %q", got)
		}
	}
}

// someCells are cells of numbers of all lengths, which suit a w and their number.
func someCells(d *dice, count int, w uint64) []api.Cell {
	var cells []api.Cell
	for range count {
		cut := d.number() >> d.below(64)
		if cut > w {
			cut = w - cut%2
		}
		cells = append(cells, api.Cell{Cut: cut, Other: uint32(d.below(count))})
	}
	return cells
}

// TestPutRead: P16.1, what Put writes is read by Get, tables that Build returns among it, and no byte more.
func TestPutRead(t *testing.T) {
	d := &dice{1 << 46}
	for range 500 {
		w := d.number()>>d.below(64) | 1
		cells := someCells(d, 1+d.below(300), w)
		b := Put([]byte("front"), cells)
		if string(b) != "front"+slowPut(cells) {
			t.Fatalf("%v are written as %q", front(cells), b)
		}
		wantGet(t, string(b[5:]), len(cells), w, cells, 0)
		wantGet(t, string(b[5:])+"\x80", len(cells), w, cells, 1)
		l := weighing(someWeights(d, 1+d.below(50), 1000)...)
		cells = wantBuild(t, l)
		wantGet(t, string(Put(nil, cells)), len(l), slowSum(l).Uint64(), cells, 0)
	}
}

// TestPutMemory: P0.4, neither the bytes nor the cells are modified, with what is behind them, nor kept, and what Put returns is memory of its own.
func TestPutMemory(t *testing.T) {
	for _, cells := range [][]api.Cell{nil, table(5, 6), table(most, 1, 300, 2)} {
		whole := append([]byte("front"), "behind it and more than that"...)
		held := append(slices.Clone(cells), table(8, 9)...)
		first := Put(whole[:5], held[:len(cells)])
		second := Put(whole[:5], held[:len(cells)])
		want := "front" + slowPut(cells)
		for i := range second[:cap(second)] {
			second[:cap(second)][i] = 'x'
		}
		if string(whole) != "frontbehind it and more than that" || !slices.Equal(held[:len(cells)], cells) || held[len(cells)] != table(8, 9)[0] {
			t.Errorf("Put makes %q and %v", whole, held)
		}
		clear(whole)
		clear(held)
		if string(first) != want {
			t.Errorf("what Put returned is %q, not %q", first, want)
		}
	}
}

// TestGetKnown: P16.1, cells are read back, with the least w and d that suit them and with greater ones, whatever follows them.
func TestGetKnown(t *testing.T) {
	cases := []struct {
		text string
		w    uint64
		want []api.Cell
	}{
		{"\x00\x00", 0, table(0, 0)},
		{"\x02\x00", 2, table(2, 0)},
		{"\xac\x02\x00", 300, table(300, 0)},
		{"\xff\xff\xff\xff\xff\xff\xff\xff\xff\x01\x00", most, table(most, 0)},
		{"\x02\x01\x04\x01", 4, table(2, 1, 4, 1)},
		{"\xff\xff\xff\xff\x07\x01\x02\x00", greatest, table(greatest, 1, 2, 0)},
		{"\x03\x02\x00\x02\x05\x00", 5, table(3, 2, 0, 2, 5, 0)},
	}
	for _, c := range cases {
		for _, behind := range []string{"", "\x00", "\x80", "\x01\x00\x00", strings.Repeat("\xff", 11)} {
			for _, w := range []uint64{c.w, c.w | 1<<40, most} {
				wantGet(t, c.text+behind, len(c.want), w, c.want, len(behind))
			}
		}
	}
	wantGet(t, "\x02\x00\x04\x01", 1, 4, table(2, 0), 2)
}

// TestGetFew: P16.1, fewer than one cell are none, and nothing is read for them.
func TestGetFew(t *testing.T) {
	for _, d := range []int{0, -1, -2, math.MinInt32, math.MinInt} {
		for _, w := range []uint64{0, 1, most} {
			for _, text := range []string{"", "\x00\x00", "\x80\x00", "\x05\x06\x07"} {
				wantGet(t, text, d, w, nil, len(text))
			}
		}
	}
}

// TestGetBad: P16.1 and P0.1, a nil reader and a bad one have no cells, and a bad one keeps its error.
func TestGetBad(t *testing.T) {
	for _, d := range []int{math.MinInt, -1, 0, 1, 2, 1 << 20, 1 << 40, math.MaxInt} {
		for _, w := range []uint64{0, 4, most} {
			if got := Get(nil, d, w); len(got) > 0 {
				t.Errorf("a nil reader has %v", got)
			}
			for e := api.ErrArg; e <= api.ErrState; e++ {
				r := varint.New([]byte("\x00\x00\x00\x00"))
				r.Bad(e)
				if got := Get(r, d, w); len(got) > 0 || r.Err() != e || r.Left() != 0 {
					t.Errorf("a bad reader has %v, and error %d", got, r.Err())
				}
			}
		}
	}
}

// TestGetCut: P16.1, a Cut of w and of one more, in the first cell and in the last one, whatever follows.
func TestGetCut(t *testing.T) {
	for _, w := range []uint64{0, 1, 4, 127, 128, greatest, 1 << 32, most - 1, most} {
		cells := table(w, 0, 0, 1, w, 2)
		text := slowPut(cells)
		wantGet(t, text, 3, w, cells, 0)
		wantGet(t, text, 3, most, cells, 0)
		if w == 0 {
			continue
		}
		wantGetBad(t, text, 3, w-1, api.ErrRange)
		for _, behind := range []string{"", "\x00", "\x80", "\x80\x00", "\x7f"} {
			wantGetBad(t, slowPut(table(w, 0))[:len(slowPut(table(w, 0)))-1]+behind, 3, w-1, api.ErrRange)
			wantGetBad(t, slowPut(table(0, 2, w-1, 1, w, 0))+behind, 3, w-1, api.ErrRange)
		}
	}
}

// TestGetOther: P16.1, an Other of d minus 1 and of d, in the first cell and in the last one, whatever follows; and one that is beyond 32 bits.
func TestGetOther(t *testing.T) {
	for _, d := range []int{1, 2, 3, 128, 129} {
		cells := slices.Repeat(table(3, uint64(d-1)), d)
		wantGet(t, slowPut(cells), d, 3, cells, 0)
		for _, other := range []uint64{uint64(d), uint64(d) + 1, last} {
			for _, at := range []int{0, d - 1} {
				wrong := slices.Clone(cells)
				wrong[at].Other = uint32(other)
				for _, behind := range []string{"", "\x00", "\x80", "\x80\x00"} {
					wantGetBad(t, slowPut(wrong)+behind, d, 3, api.ErrRange)
					wantGetBad(t, slowPut(wrong[:at+1])+behind, d, 3, api.ErrRange)
				}
			}
		}
		wantGetBad(t, "\x03\x80\x80\x80\x80\x10", d, 3, api.ErrRange) // 2^32, in 32 bits 0
	}
	for _, d := range []int{1 << 32, 1<<32 + 1, 1 << 40, math.MaxInt} {
		wantGetBad(t, "\x03\xff\xff\xff\xff\x0f", d, 3, api.ErrShort)
		wantGetBad(t, "\x03\x80\x80\x80\x80\x10", d, 3, api.ErrRange)
	}
}

// TestGetShort: P16.1 and P0.2, the bytes end in each place, within a number and in front of one, however many cells are asked for.
func TestGetShort(t *testing.T) {
	text := slowPut(table(300, 1, 0, 200, 128, 150))
	for n := range text {
		for _, d := range []int{201, 1000, math.MaxInt32, 1 << 40, math.MaxInt} {
			wantGetBad(t, text[:n], d, 300, api.ErrShort)
		}
	}
	for n := range 4 {
		wantGetBad(t, "\x02\x01\x04\x01"[:n], 2, 4, api.ErrShort)
	}
}

// TestGetForm: P16.1 and P0.2, a number that is malformed, in each place where one is read.
func TestGetForm(t *testing.T) {
	for _, wrong := range []string{"\x80\x00", "\x81\x80\x00", strings.Repeat("\xff", 9) + "\x02", strings.Repeat("\x80", 10) + "\x01"} {
		for _, before := range []string{"", "\x02", "\x02\x01", "\x02\x01\x04"} {
			for _, behind := range []string{"", "\x00", "\x00\x00\x00\x00", "\x7f"} {
				wantGetBad(t, before+wrong+behind, 2, 4, api.ErrForm)
				wantGetBad(t, before+wrong+behind, math.MaxInt, most, api.ErrForm)
			}
		}
	}
	wantGetBad(t, "\x05\x80\x00", 2, 4, api.ErrRange) // the first one that has an error counts
	wantGetBad(t, "\x80\x00\x05", 2, 4, api.ErrForm)
}

// TestGetAll: P16.1, all short texts of some bytes, against the chapter.
func TestGetAll(t *testing.T) {
	met := map[api.Errno]int{}
	for text := range sequences(6, []byte{0, 1, 2, 3, 0x80, 0x82}) {
		for d := range 4 {
			met[wantSame(t, string(text), d, 2)]++
		}
		met[wantSame(t, string(text), 1<<40, 256)]++
	}
	for _, err := range []api.Errno{api.OK, api.ErrShort, api.ErrForm, api.ErrRange} {
		if met[err] < 1000 {
			t.Errorf("error %d was met %d times", err, met[err])
		}
	}
}

// TestGetChanged: P16.1, written cells with a byte changed, against the chapter.
func TestGetChanged(t *testing.T) {
	d := &dice{1 << 47}
	for range 3000 {
		w := d.number()>>d.below(64) | 1
		cells := someCells(d, 1+d.below(8), w)
		b := Put(nil, cells)
		b[d.below(len(b))] ^= byte(1 << d.below(8))
		wantSame(t, string(b), len(cells), w)
	}
}

// TestGetMemory: P0.4 and P0.6, cells that are read are memory of their own, and reading the same again comes to the same.
func TestGetMemory(t *testing.T) {
	b := Put(nil, table(2, 1, 4, 1, 3, 0))
	r := varint.New(b)
	first := Get(r, 2, 4)
	rest := Get(r, 1, 4)
	for range 3 {
		other := Get(varint.New(b), 3, 4)
		if !slices.Equal(other, table(2, 1, 4, 1, 3, 0)) {
			t.Errorf("the cells are %v then", other)
		}
		for i := range other[:cap(other)] {
			other[:cap(other)][i] = api.Cell{Cut: 9, Other: 9}
		}
	}
	clear(b)
	if !slices.Equal(first, table(2, 1, 4, 1)) || !slices.Equal(rest, table(3, 0)) || r.End() != api.OK {
		t.Errorf("the cells are %v and %v, with error %d", first, rest, r.End())
	}
}
