package extent

import (
	"math"
	"palmer/api"
	"palmer/mix"
	"slices"
	"testing"
)

const most = 65536 // the blocks of a map, by the chapter

// absent are numbers of blocks that no map has.
var absent = []int{-1, -2, -64, -most, most, most + 1, 1 << 32, 1<<32 + 1, math.MinInt32, math.MaxInt32, math.MinInt, math.MaxInt}

// counts are numbers of blocks that a map may have.
var counts = []int{0, 1, 2, 3, 7, 8, 9, 63, 64, 65, 127, 128, 129, 1000, most - 1, most}

// upTo is the numbers from 0 to n-1.
func upTo(n int) []int {
	l := make([]int, n)
	for i := range l {
		l[i] = i
	}
	return l
}

// holding is a map of count blocks, of which those of l are taken.
func holding(t *testing.T, count int, l ...int) *Map {
	t.Helper()
	m := New(count)
	if m == nil {
		t.Fatalf("New(%d) is nil", count)
	}
	mustHold(t, m, l...)
	return m
}

// mustHold takes blocks that are to be had.
func mustHold(t *testing.T, m *Map, l ...int) {
	t.Helper()
	if err := m.Hold(l); err != api.OK {
		t.Fatalf("Hold of %v is error %d", l, err)
	}
}

// mustGive frees blocks that are taken.
func mustGive(t *testing.T, m *Map, l ...int) {
	t.Helper()
	if err := m.Give(l); err != api.OK {
		t.Fatalf("Give of %v is error %d", l, err)
	}
}

// wantErrno says what a call returned.
func wantErrno(t *testing.T, what string, l []int, got, want api.Errno) {
	t.Helper()
	if got != want {
		t.Errorf("%s of %v is error %d, not %d", what, l, got, want)
	}
}

// wantTake: P7.1, the lowest free blocks are taken, in ascending order.
func wantTake(t *testing.T, m *Map, want ...int) []int {
	t.Helper()
	l, err := m.Take(len(want))
	if !slices.Equal(l, want) || err != api.OK {
		t.Errorf("Take(%d) is %v and %d, not %v", len(want), l, err, want)
	}
	return l
}

// wantNoTake: P7.1 and P0.2, no blocks are taken, and nothing is beside the error.
func wantNoTake(t *testing.T, m *Map, n int, want api.Errno) {
	t.Helper()
	if l, err := m.Take(n); len(l) != 0 || err != want {
		t.Errorf("Take(%d) is %v and %d, not error %d", n, l, err, want)
	}
}

// wantMap: P7.1, a map of count blocks, of which those of l are taken and no others, by Free and Is for all blocks.
func wantMap(t *testing.T, m *Map, count int, l ...int) {
	t.Helper()
	if m.Free() != count-len(l) {
		t.Errorf("%d of %d blocks are free, not %d", m.Free(), count, count-len(l))
	}
	taken := make([]bool, count)
	for _, i := range l {
		taken[i] = true
	}
	for i, want := range taken {
		if m.Is(i) != want {
			t.Errorf("block %d of %d is taken: %v", i, count, !want)
		}
	}
	for _, i := range append([]int{count, count + 1, count + 64}, absent...) {
		if m.Is(i) {
			t.Errorf("block %d of %d is taken", i, count)
		}
	}
}

// TestExample: P7.1, the example of the chapter.
func TestExample(t *testing.T) {
	m := New(3)
	mustHold(t, m, 1)
	wantTake(t, m, 0, 2)
	wantMap(t, m, 3, 0, 1, 2)
}

// wantNew: P7.1, what New made of a number is a map of so many blocks, all free: the last can be taken, and none behind it.
func wantNew(t *testing.T, number, count int) {
	t.Helper()
	m := holding(t, number)
	wantMap(t, m, count)
	for _, i := range append([]int{count, count + 1}, absent...) {
		wantErrno(t, "Hold", []int{i}, m.Hold([]int{i}), api.ErrRange)
		wantErrno(t, "Give", []int{i}, m.Give([]int{i}), api.ErrRange)
	}
	wantNoTake(t, m, count+1, api.ErrFull)
	wantMap(t, m, count)
	if count > 0 {
		mustHold(t, m, count-1)
		wantMap(t, m, count, count-1)
		mustGive(t, m, count-1)
	}
	wantTake(t, m, upTo(count)...)
	wantMap(t, m, count, upTo(count)...)
}

// TestNew: P7.1, a map of each number of blocks.
func TestNew(t *testing.T) {
	for _, count := range counts {
		wantNew(t, count, count)
	}
	if api.MaxBlocks != most {
		t.Errorf("%d blocks at most", api.MaxBlocks)
	}
}

// TestNewOutside: P7.1 and P0.1, a number that is negative is 0, and one that is too great is the greatest.
func TestNewOutside(t *testing.T) {
	for _, number := range []int{-1, -2, -64, -most, math.MinInt32, math.MinInt, math.MinInt + 1} {
		wantNew(t, number, 0)
	}
	for _, number := range []int{most + 1, most + 2, most + 64, 2 * most, math.MaxInt32, 1 << 32, math.MaxInt} {
		wantNew(t, number, most)
	}
}

// TestNothing: P7.1 and P0.5, to take or free no blocks changes nothing, whatever the map.
func TestNothing(t *testing.T) {
	for _, count := range counts {
		for _, taken := range [][]int{nil, upTo(count / 2), upTo(count)} {
			m := holding(t, count, taken...)
			for _, l := range [][]int{nil, {}, make([]int, 0, 5)} {
				wantErrno(t, "Hold", l, m.Hold(l), api.OK)
				wantErrno(t, "Give", l, m.Give(l), api.OK)
			}
			wantTake(t, m)
			wantMap(t, m, count, taken...)
		}
	}
}

// TestOneBlock: P7.1, each block of a map is taken and freed by itself.
func TestOneBlock(t *testing.T) {
	for _, count := range []int{1, 2, 3, 64, 65, 130} {
		m := New(count)
		for i := range count {
			mustHold(t, m, i)
			wantMap(t, m, count, i)
			mustGive(t, m, i)
			wantMap(t, m, count)
		}
		for i := range count {
			mustHold(t, m, i)
			wantMap(t, m, count, upTo(i+1)...)
		}
		for i := range count {
			mustGive(t, m, i)
			wantMap(t, m, count, upTo(count)[i+1:]...)
		}
	}
}

// TestSeveral: P7.1, several blocks are taken and freed, in whatever order they stand.
func TestSeveral(t *testing.T) {
	for _, l := range [][]int{{0, 129}, {129, 0}, {1, 2, 3}, {3, 2, 1}, {2, 3, 1}, {64, 63, 65, 0, 128, 127}} {
		m := holding(t, 130, 100)
		mustHold(t, m, l...)
		wantMap(t, m, 130, append(l, 100)...)
		back := slices.Clone(l)
		slices.Reverse(back)
		for _, give := range [][]int{l, back} {
			c := m.Clone()
			mustGive(t, c, give...)
			wantMap(t, c, 130, 100)
		}
		mustGive(t, m, l[0])
		wantMap(t, m, 130, append(l[1:], 100)...)
	}
}

// TestAll: P7.1, all blocks of a map at once, from the first one on and from the last one.
func TestAll(t *testing.T) {
	for _, count := range counts {
		l := upTo(count)
		back := slices.Clone(l)
		slices.Reverse(back)
		m := New(count)
		for _, all := range [][]int{l, back} {
			mustHold(t, m, all...)
			wantMap(t, m, count, l...)
			mustGive(t, m, all...)
			wantMap(t, m, count)
		}
	}
}

// among is l with the blocks x put in before block k of it.
func among(l []int, k int, x ...int) []int {
	return slices.Insert(slices.Clone(l), k, x...)
}

// wantNeither: P7.1 and P0.3, neither Hold of blocks that are free but for those of x, nor Give of blocks that are
// taken but for them, does anything. Of ten blocks, 0 to 4 are free, and 5 to 9 taken.
func wantNeither(t *testing.T, want api.Errno, free, taken []int) {
	t.Helper()
	m := holding(t, 10, 5, 6, 7, 8, 9)
	for k := range 4 {
		l := among([]int{3, 0, 4}, k, free...)
		wantErrno(t, "Hold", l, m.Hold(l), want)
		wantMap(t, m, 10, 5, 6, 7, 8, 9)
		l = among([]int{8, 5, 9}, k, taken...)
		wantErrno(t, "Give", l, m.Give(l), want)
		wantMap(t, m, 10, 5, 6, 7, 8, 9)
	}
	wantErrno(t, "Hold", free, m.Hold(free), want)
	wantErrno(t, "Give", taken, m.Give(taken), want)
	wantMap(t, m, 10, 5, 6, 7, 8, 9)
	wantTake(t, m, 0, 1, 2, 3, 4)
}

// TestAbsent: P7.1, a block that does not exist is neither taken nor freed, wherever it stands, once or twice.
func TestAbsent(t *testing.T) {
	for _, i := range append([]int{10, 11, 15, 16, 63, 64}, absent...) {
		wantNeither(t, api.ErrRange, []int{i}, []int{i})
		wantNeither(t, api.ErrRange, []int{i, i}, []int{i, i})
		wantNeither(t, api.ErrRange, []int{2, i}, []int{7, i})
	}
	for _, i := range []int{0, 9} { // the first and the last one exist
		m := New(10)
		mustHold(t, m, i)
		mustGive(t, m, i)
	}
}

// TestState: P7.1, a block that is taken is not taken, nor is one that is free freed, wherever it stands.
func TestState(t *testing.T) {
	for i := range 5 {
		wantNeither(t, api.ErrState, []int{i + 5}, []int{i})
		wantNeither(t, api.ErrState, []int{1, i + 5}, []int{6, i})
		wantNeither(t, api.ErrState, []int{i + 5, 2}, []int{i, 7})
	}
}

// TestTwice: P7.1, a block that occurs twice is neither taken nor freed, whatever stands between, and whatever it was.
func TestTwice(t *testing.T) {
	wantNeither(t, api.ErrState, []int{1, 1}, []int{6, 6})
	wantNeither(t, api.ErrState, []int{1, 1, 1}, []int{6, 6, 6})
	wantNeither(t, api.ErrState, []int{1, 2, 1}, []int{6, 7, 6})
	wantNeither(t, api.ErrState, []int{1, 2, 1, 2}, []int{6, 7, 6, 7})
	wantNeither(t, api.ErrState, []int{5, 5}, []int{0, 0})
	wantNeither(t, api.ErrState, []int{5, 1, 5}, []int{0, 6, 0})
	m := New(most)
	l := append(upTo(most), 0)
	wantErrno(t, "Hold", nil, m.Hold(l), api.ErrState)
	wantMap(t, m, most)
	mustHold(t, m, upTo(most)...)
	wantErrno(t, "Give", nil, m.Give(l), api.ErrState)
	wantMap(t, m, most, upTo(most)...)
}

// TestOrder: P7.1 and P0.2, a block that does not exist comes ahead of one that is not as it should be or occurs twice,
// in whichever order they stand.
func TestOrder(t *testing.T) {
	for _, i := range append([]int{10}, absent...) {
		wantNeither(t, api.ErrRange, []int{i, 5}, []int{i, 0})
		wantNeither(t, api.ErrRange, []int{5, i}, []int{0, i})
		wantNeither(t, api.ErrRange, []int{5, 1, i}, []int{0, 6, i})
		wantNeither(t, api.ErrRange, []int{i, 1, 1}, []int{i, 6, 6})
		wantNeither(t, api.ErrRange, []int{1, i, 1}, []int{6, i, 6})
		wantNeither(t, api.ErrRange, []int{1, 1, i}, []int{6, 6, i})
		wantNeither(t, api.ErrRange, []int{5, 1, 1, i}, []int{0, 6, 6, i})
	}
}

// TestTake: P7.1, any number of blocks, from the first one on.
func TestTake(t *testing.T) {
	for _, n := range []int{0, 1, 2, 63, 64, 65, 129, 130} {
		m := New(130)
		wantTake(t, m, upTo(n)...)
		wantMap(t, m, 130, upTo(n)...)
		wantNoTake(t, m, 131-n, api.ErrFull)
		wantMap(t, m, 130, upTo(n)...)
		wantTake(t, m, upTo(130)[n:]...)
		wantMap(t, m, 130, upTo(130)...)
		wantTake(t, m)
		wantNoTake(t, m, 1, api.ErrFull)
		wantMap(t, m, 130, upTo(130)...)
	}
	m := New(130)
	for i := range 130 {
		wantTake(t, m, i)
	}
	wantNoTake(t, m, 1, api.ErrFull)
}

// TestTakeNone: P7.1, P0.2 and P0.3, a number that is negative, and one of more blocks than are free.
func TestTakeNone(t *testing.T) {
	for _, count := range counts {
		for _, taken := range [][]int{nil, upTo(count)[count/2:], upTo(count)} {
			m := holding(t, count, taken...)
			for _, n := range []int{-1, -2, -count, -most, math.MinInt32, math.MinInt} {
				if n < 0 {
					wantNoTake(t, m, n, api.ErrArg)
				}
			}
			for _, more := range []int{1, 2, 64, most, math.MaxInt32, math.MaxInt - most} {
				wantNoTake(t, m, m.Free()+more, api.ErrFull)
			}
			wantNoTake(t, m, math.MaxInt, api.ErrFull)
			wantMap(t, m, count, taken...)
			wantTake(t, m, upTo(count)[:count-len(taken)]...)
		}
	}
}

// TestTakeAmong: P7.1, the lowest free blocks where taken and free ones alternate.
func TestTakeAmong(t *testing.T) {
	for _, first := range []int{0, 1} {
		var taken, free []int
		for i := range 200 {
			if i%2 == first {
				taken = append(taken, i)
			} else {
				free = append(free, i)
			}
		}
		for n := range len(free) + 1 {
			m := holding(t, 200, taken...)
			wantTake(t, m, free[:n]...)
			wantMap(t, m, 200, append(slices.Clone(taken), free[:n]...)...)
			wantNoTake(t, m, len(free)-n+1, api.ErrFull)
			wantTake(t, m, free[n:]...)
			wantMap(t, m, 200, upTo(200)...)
		}
	}
}

// TestTakeGiven: P7.1, what was freed is taken again, lowest first, in whatever order it was freed.
func TestTakeGiven(t *testing.T) {
	m := New(130)
	wantTake(t, m, upTo(100)...)
	mustGive(t, m, 99, 3, 64)
	mustGive(t, m, 0)
	wantMap(t, m, 130, slices.Concat([]int{1, 2}, upTo(64)[4:], upTo(99)[65:])...)
	wantTake(t, m, 0, 3)
	wantTake(t, m, 64, 99, 100)
	mustGive(t, m, 50)
	wantTake(t, m, append([]int{50}, upTo(130)[101:]...)...)
	wantNoTake(t, m, 1, api.ErrFull)
	mustGive(t, m, 129, 7)
	wantNoTake(t, m, 3, api.ErrFull)
	wantTake(t, m, 7, 129)
	wantMap(t, m, 130, upTo(130)...)
}

// TestGiven: P7.1, what was freed is free: it can be taken again, and is not freed again.
func TestGiven(t *testing.T) {
	m := holding(t, 5, 0, 1, 2, 4)
	for range 3 {
		mustGive(t, m, 4, 1)
		wantMap(t, m, 5, 0, 2)
		for _, l := range [][]int{{1}, {4}, {0, 1}, {4, 2}} {
			wantErrno(t, "Give", l, m.Give(l), api.ErrState)
		}
		mustHold(t, m, 1)
		wantMap(t, m, 5, 0, 1, 2)
		wantErrno(t, "Hold", []int{4, 1}, m.Hold([]int{4, 1}), api.ErrState)
		mustHold(t, m, 4)
		wantMap(t, m, 5, 0, 1, 2, 4)
	}
	mustGive(t, m, wantTake(t, m, 3)...)
	wantMap(t, m, 5, 0, 1, 2, 4)
}

// TestErrorsBetween: P0.3, calls with errors change nothing of what the calls behind them do.
func TestErrorsBetween(t *testing.T) {
	m := holding(t, 6, 1, 3)
	for range 50 {
		wantErrno(t, "Hold", []int{0, 6}, m.Hold([]int{0, 6}), api.ErrRange)
		wantErrno(t, "Hold", []int{0, 1}, m.Hold([]int{0, 1}), api.ErrState)
		wantErrno(t, "Hold", []int{0, 0}, m.Hold([]int{0, 0}), api.ErrState)
		wantErrno(t, "Give", []int{1, -1}, m.Give([]int{1, -1}), api.ErrRange)
		wantErrno(t, "Give", []int{1, 0}, m.Give([]int{1, 0}), api.ErrState)
		wantErrno(t, "Give", []int{1, 1}, m.Give([]int{1, 1}), api.ErrState)
		wantNoTake(t, m, -1, api.ErrArg)
		wantNoTake(t, m, 5, api.ErrFull)
	}
	wantMap(t, m, 6, 1, 3)
	wantTake(t, m, 0, 2, 4, 5)
}

// TestClone: P7.1, a clone is the same map, and neither changes with the other.
func TestClone(t *testing.T) {
	for _, count := range counts {
		m := holding(t, count, upTo(count/2)...)
		wantMap(t, m.Clone(), count, upTo(count/2)...)
		wantMap(t, m.Clone().Clone(), count, upTo(count/2)...)
	}
	a := holding(t, 5, 1, 3)
	b := a.Clone()
	c := b.Clone()
	mustHold(t, a, 0)
	mustGive(t, a, 3)
	wantMap(t, a, 5, 0, 1)
	wantMap(t, b, 5, 1, 3)
	mustGive(t, b, 1)
	mustHold(t, b, 4, 2)
	wantMap(t, a, 5, 0, 1)
	wantMap(t, b, 5, 2, 3, 4)
	wantMap(t, c, 5, 1, 3)
	wantTake(t, c, 0, 2)
	wantErrno(t, "Hold", []int{4, 4}, c.Hold([]int{4, 4}), api.ErrState)
	wantTake(t, b, 0, 1)
	wantMap(t, a, 5, 0, 1)
	wantMap(t, b, 5, 0, 1, 2, 3, 4)
	wantMap(t, c, 5, 0, 1, 2, 3)
}

// TestNil: P7.1 and P0.1, a map that is nil is one of no blocks, at each method, but that its clone is nil.
func TestNil(t *testing.T) {
	var m *Map
	for range 2 {
		wantMap(t, m, 0)
		for _, l := range [][]int{nil, {}} {
			wantErrno(t, "Hold", l, m.Hold(l), api.OK)
			wantErrno(t, "Give", l, m.Give(l), api.OK)
		}
		for _, i := range append([]int{0, 1}, absent...) {
			for _, l := range [][]int{{i}, {i, i}, {0, i}} {
				wantErrno(t, "Hold", l, m.Hold(l), api.ErrRange)
				wantErrno(t, "Give", l, m.Give(l), api.ErrRange)
			}
		}
		wantTake(t, m)
		for _, n := range []int{1, 2, most, math.MaxInt} {
			wantNoTake(t, m, n, api.ErrFull)
			wantNoTake(t, m, -n, api.ErrArg)
		}
		wantNoTake(t, m, math.MinInt, api.ErrArg)
		if c := m.Clone(); c != nil {
			t.Errorf("the clone of a nil map is %v", c)
		}
	}
	if c := New(0).Clone(); c == nil {
		t.Error("the clone of a map of no blocks is nil")
	}
}

// TestOwnMemory: P0.4, the blocks that were taken are the caller's own: to write to them changes no map and no other result.
func TestOwnMemory(t *testing.T) {
	m := New(9)
	a := wantTake(t, m, 0, 1, 2)
	c := m.Clone()
	b := wantTake(t, m, 3, 4)
	d := wantTake(t, c, 3, 4)
	for _, l := range [][]int{a, d} {
		l = l[:cap(l)]
		for i := range l {
			l[i] = 8
		}
	}
	if !slices.Equal(b, []int{3, 4}) {
		t.Errorf("what was taken has become %v", b)
	}
	wantMap(t, m, 9, 0, 1, 2, 3, 4)
	wantMap(t, c, 9, 0, 1, 2, 3, 4)
	mustGive(t, m, b...)
	wantTake(t, m, 3)
	if !slices.Equal(b, []int{3, 4}) {
		t.Errorf("what was taken has become %v", b)
	}
}

// TestArguments: P0.4, what was passed may change behind the call, and no call changes it, nor what is around it.
func TestArguments(t *testing.T) {
	m := New(9)
	whole := []int{7, 1, 0, 5, 7}
	l := whole[1:4]
	mustHold(t, m, l...)
	copy(l, []int{3, 4, 2})
	wantMap(t, m, 9, 0, 1, 5)
	mustHold(t, m, l...)
	wantErrno(t, "Hold", l, m.Hold(l), api.ErrState)
	copy(l, []int{5, 1, 0})
	wantMap(t, m, 9, 0, 1, 2, 3, 4, 5)
	mustGive(t, m, l...)
	wantErrno(t, "Give", l, m.Give(l), api.ErrState)
	wantErrno(t, "Hold", whole, m.Hold(whole), api.ErrState)
	wantErrno(t, "Give", whole, m.Give(whole), api.ErrState)
	if !slices.Equal(whole, []int{7, 5, 1, 0, 7}) {
		t.Errorf("what was passed has become %v", whole)
	}
	bad := []int{6, 2, 6, 9}
	wantErrno(t, "Hold", bad, m.Hold(bad), api.ErrRange)
	wantErrno(t, "Give", bad, m.Give(bad), api.ErrRange)
	if !slices.Equal(bad, []int{6, 2, 6, 9}) {
		t.Errorf("what was passed has become %v", bad)
	}
	wantMap(t, m, 9, 2, 3, 4)
}

// TestTwoMaps: P0.6, a map is not touched by what is done to another one.
func TestTwoMaps(t *testing.T) {
	a, b := New(3), New(3)
	mustHold(t, a, 1)
	wantMap(t, b, 3)
	wantTake(t, b, 0, 1)
	wantMap(t, a, 3, 1)
	mustGive(t, a, 1)
	wantMap(t, b, 3, 0, 1)
}

// slow is a map by the chapter: how many blocks there are, and a list of those that are taken.
type slow struct {
	count int
	taken []int
}

func (s *slow) is(i int) bool {
	return slices.Contains(s.taken, i)
}

func (s *slow) free() []int {
	return slices.DeleteFunc(upTo(s.count), s.is)
}

// fault is the error of a list of blocks that are to be taken, or not to be.
func (s *slow) fault(l []int, taken bool) api.Errno {
	for _, i := range l {
		if i < 0 || i > s.count-1 {
			return api.ErrRange
		}
	}
	for k, i := range l {
		if s.is(i) != taken || slices.Contains(l[:k], i) {
			return api.ErrState
		}
	}
	return api.OK
}

func (s *slow) hold(l []int) api.Errno {
	err := s.fault(l, false)
	if err == api.OK {
		s.taken = append(s.taken, l...)
	}
	return err
}

func (s *slow) give(l []int) api.Errno {
	err := s.fault(l, true)
	if err == api.OK {
		s.taken = slices.DeleteFunc(s.taken, func(i int) bool { return slices.Contains(l, i) })
	}
	return err
}

func (s *slow) take(n int) ([]int, api.Errno) {
	if n < 0 {
		return nil, api.ErrArg
	}
	free := s.free()
	if n > len(free) {
		return nil, api.ErrFull
	}
	s.taken = append(s.taken, free[:n]...)
	return free[:n], api.OK
}

func (s *slow) clone() *slow {
	return &slow{s.count, slices.Clone(s.taken)}
}

// lists are all lists of at most so many of the numbers from -1 to 3.
func lists(length int) [][]int {
	all := [][]int{nil}
	last := all
	for range length {
		var longer [][]int
		for _, l := range last {
			for i := -1; i <= 3; i++ {
				longer = append(longer, append(slices.Clone(l), i))
			}
		}
		all, last = append(all, longer...), longer
	}
	return all
}

// TestLists: P7.1, P0.2 and P0.3, all short lists with each map of three blocks against the specification.
func TestLists(t *testing.T) {
	for state := range 8 {
		var taken []int
		for i := range 3 {
			if state>>i%2 == 1 {
				taken = append(taken, i)
			}
		}
		for _, l := range lists(4) {
			m, s := holding(t, 3, taken...), &slow{3, slices.Clone(taken)}
			wantErrno(t, "Hold", l, m.Hold(l), s.hold(l))
			wantMap(t, m, 3, s.taken...)
			m, s = holding(t, 3, taken...), &slow{3, slices.Clone(taken)}
			wantErrno(t, "Give", l, m.Give(l), s.give(l))
			wantMap(t, m, 3, s.taken...)
		}
	}
}

// dice gives the numbers of a sequence, the same in each run.
type dice struct{ tape api.Tape }

// below is a number from 0 to n-1.
func (d *dice) below(n int) int {
	d.tape.Step++
	return int(mix.Below(d.tape, uint64(n)))
}

// someOf is some of the numbers of l in any order, seldom one of them twice, or one from -1 to count.
func (d *dice) someOf(l []int, count int) []int {
	l = slices.Clone(l)
	for i := range l {
		k := i + d.below(len(l)-i)
		l[i], l[k] = l[k], l[i]
	}
	l = l[:d.below(len(l)+1)]
	if d.below(4) == 0 {
		l = among(l, d.below(len(l)+1), d.below(count+2)-1)
	}
	if d.below(4) == 0 && len(l) > 0 {
		l = among(l, d.below(len(l)+1), l[d.below(len(l))])
	}
	return l
}

// both does one thing, by chance, to a map and to the one by the chapter.
func both(t *testing.T, x *dice, m *Map, s *slow) {
	t.Helper()
	switch x.below(4) {
	case 0:
		l := x.someOf(s.free(), s.count)
		wantErrno(t, "Hold", l, m.Hold(l), s.hold(l))
	case 1:
		l := x.someOf(s.taken, s.count)
		wantErrno(t, "Give", l, m.Give(l), s.give(l))
	case 2:
		l := x.someOf(upTo(s.count), s.count)
		wantErrno(t, "Hold", l, m.Hold(l), s.hold(l))
	default:
		n := x.below(s.count/2+3) - 1
		l, err := m.Take(n)
		if want, wantErr := s.take(n); !slices.Equal(l, want) || err != wantErr {
			t.Errorf("Take(%d) is %v and %d, not %v and %d", n, l, err, want, wantErr)
		}
	}
}

// TestSlow: P7.1, P0.2, P0.3 and P0.6, any sequence of calls against the specification, for a map and its clones.
func TestSlow(t *testing.T) {
	for seed := range 300 {
		x := &dice{api.Tape{Seed: uint64(seed)}}
		s := &slow{count: x.below(150)}
		m := holding(t, s.count)
		for range 60 {
			c, sc := m.Clone(), s.clone()
			both(t, x, m, s)
			both(t, x, c, sc)
			wantMap(t, m, s.count, s.taken...)
			wantMap(t, c, sc.count, sc.taken...)
			if x.below(3) == 0 {
				m, s = c, sc
			}
			if t.Failed() {
				t.Fatalf("with seed %d", seed)
			}
		}
	}
}
