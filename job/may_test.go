package job

import (
	"math"
	"math/rand"
	"palmer/api"
	"slices"
	"testing"
)

// TestMayPlain: P19.1, a job with all defaults and a source is valid; the zero job is not, and neither is one with a number or a source alone.
func TestMayPlain(t *testing.T) {
	for _, s := range []uint32{0, 1, 7, math.MaxInt32, math.MaxInt32 + 1, math.MaxUint32} {
		wantMay(t, plain(s), true)
		wantMay(t, api.Job{Sources: []uint32{s}}, false)
	}
	wantMay(t, api.Job{}, false)
	wantMay(t, api.Job{Seed: 1, Length: 1, Walks: 1}, false)
	wantMay(t, plain(), false)
}

// TestMayLimits: P19.1, each number at its minimum, at its maximum, beside them, and one beyond each that there can be.
func TestMayLimits(t *testing.T) {
	for _, r := range table {
		for _, n := range []uint64{r.least, r.least + 1, r.usual, r.most - 1, r.most} {
			wantMay(t, r.with(n), true)
		}
		beyond := []uint64{r.most * 2, r.most + 256, 1 << 16, 1<<16 + 1, 1 << 31, math.MaxUint32, math.MaxUint64}
		if r.least > 0 {
			beyond = append(beyond, 0, r.least-1)
		}
		if r.most < math.MaxUint64 {
			beyond = append(beyond, r.most+1)
		}
		for _, n := range beyond {
			if r.fits(n) && (n < r.least || n > r.most) {
				wantMay(t, r.with(n), false)
			}
		}
	}
}

// TestMayAllLimits: P19.1, all numbers at their minimum and at their maximum at once, and then each alone beyond.
func TestMayAllLimits(t *testing.T) {
	low, high := plain(0), plain(math.MaxUint32)
	for _, r := range table {
		at(&low, r.field).SetUint(r.least)
		at(&high, r.field).SetUint(r.most)
	}
	high.Kind = api.Second
	wantMay(t, low, true)
	wantMay(t, high, true)
	for _, r := range table {
		if r.least > 0 {
			j := low
			at(&j, r.field).SetUint(r.least - 1)
			wantMay(t, j, false)
		}
		if r.most < math.MaxUint64 && r.fits(r.most+1) {
			j := high
			at(&j, r.field).SetUint(r.most + 1)
			wantMay(t, j, false)
		}
	}
}

// TestMayKind: P19.1, the three kinds, and every one that is none of them.
func TestMayKind(t *testing.T) {
	for kind := range 256 {
		j := plain(7)
		j.Kind = uint8(kind)
		wantMay(t, j, kind < 3)
	}
}

// TestMayShare: P19.1, Stop below Of, equal to it, greater by 1 and by more.
func TestMayShare(t *testing.T) {
	for _, of := range []uint32{1, 2, 3, 9, 1 << 16, 1 << 31, math.MaxUint32 - 1, math.MaxUint32} {
		for _, stop := range []uint32{0, 1, of - 1, of, of + 1, 2, 4, 10, 1<<16 + 1, 1 << 31, 1<<31 + 1, math.MaxUint32 - 1, math.MaxUint32} {
			j := plain(7)
			j.Stop, j.Of = stop, of
			wantMay(t, j, stop <= of)
		}
	}
	j := plain(7)
	j.Stop, j.Of = 0, 0
	wantMay(t, j, false)
}

// TestMayCount: P19.1, no sources, up to 256 of them, and more, also twice as many and such that 8 or 16 bits would not tell.
func TestMayCount(t *testing.T) {
	for n := range 260 {
		wantMay(t, plain(count(n)...), 1 <= n && n <= 256)
	}
	for _, n := range []int{511, 512, 513, 1 << 16, 1<<16 + 1, 1<<16 + 256, 1 << 18} {
		wantMay(t, plain(count(n)...), false)
	}
	wantMay(t, plain([]uint32{}...), false)
	wantMay(t, plain(count(9)[:0]...), false)
}

// TestMayTwice: P19.1, two sources that are the same, side by side and far apart, at every two places of some and at places of many.
func TestMayTwice(t *testing.T) {
	for _, c := range []struct {
		n      int
		places []int
	}{
		{2, []int{0, 1}},
		{3, []int{0, 1, 2}},
		{12, []int{0, 1, 2, 3, 4, 5, 6, 7, 8, 9, 10, 11}},
		{255, []int{0, 1, 127, 128, 253, 254}},
		{256, []int{0, 1, 2, 100, 127, 128, 254, 255}},
		{257, []int{0, 1, 255, 256}},
	} {
		for _, i := range c.places {
			for _, k := range c.places {
				l := count(c.n)
				l[i] = l[k]
				wantMay(t, plain(l...), i == k && c.n <= 256)
			}
		}
	}
	wantMay(t, plain(slices.Repeat([]uint32{5}, 256)...), false)
	wantMay(t, plain(0, 0), false)
	wantMay(t, plain(math.MaxUint32, math.MaxUint32), false)
	wantMay(t, plain(math.MaxUint32, 0), true)
	wantMay(t, plain(1, 1<<8+1, 1<<16+1, 1<<24+1), true)
}

// TestWalkers: P19.1, as many as Walks for each source: one source, several, and the most that there can be; none if the job is not valid.
func TestWalkers(t *testing.T) {
	for _, c := range []struct {
		sources int
		walks   uint32
		want    uint32
	}{
		{1, 1, 1}, {1, 30, 30}, {1, 65536, 65536}, {2, 1, 2}, {2, 7, 14}, {3, 65535, 196605},
		{255, 65536, 16711680}, {256, 1, 256}, {256, 65535, 16776960}, {256, 65536, 16777216},
		{0, 1, 0}, {0, 65536, 0}, {1, 0, 0}, {256, 0, 0}, {257, 1, 0}, {257, 65536, 0}, {1, 65537, 0}, {256, 65537, 0}, {1, math.MaxUint32, 0}, {256, 1 << 24, 0},
	} {
		j := plain(count(c.sources)...)
		j.Walks = c.walks
		if got := Walkers(j); got != c.want {
			t.Errorf("%d sources with %d walks each have %d walkers, not %d", c.sources, c.walks, got, c.want)
		}
	}
	j := plain(4, 5, 4)
	j.Walks = 3
	if got := Walkers(j); got != 0 {
		t.Errorf("with a source that is there twice there are %d walkers", got)
	}
	if got := Walkers(api.Job{}); got != 0 {
		t.Errorf("the zero job has %d walkers", got)
	}
}

// TestMayEach: P19.1, jobs without a pattern, valid ones and those of which one or two numbers or sources are others, against the chapter.
func TestMayEach(t *testing.T) {
	r := rand.New(rand.NewSource(19))
	for range 3000 {
		j := someJob(r)
		wantMay(t, j, true)
		for range r.Intn(3) {
			of := table[r.Intn(len(table))]
			n := []uint64{of.least - 1, of.least, of.most, of.most + 1, r.Uint64() >> r.Intn(64)}[r.Intn(5)]
			if of.fits(n) {
				at(&j, of.field).SetUint(n)
			}
		}
		j.Kind += uint8(r.Intn(40) / 38)
		if r.Intn(4) == 0 {
			j.Sources[r.Intn(len(j.Sources))] = j.Sources[r.Intn(len(j.Sources))]
		}
		wantMay(t, j, slowMay(j))
	}
}

// TestMayArgument: P0.4, neither May nor Walkers changes the sources, or what is behind them in their memory.
func TestMayArgument(t *testing.T) {
	for n := range 12 {
		whole := count(12)
		whole[5] = whole[2]
		before := slices.Clone(whole)
		j := plain()
		j.Sources = whole[:n]
		May(j)
		Walkers(j)
		if !slices.Equal(whole, before) {
			t.Fatalf("of %v, %d sources, there is %v", before, n, whole)
		}
	}
}

// TestMayAgain: P0.6, what is asked before and between changes no answer.
func TestMayAgain(t *testing.T) {
	good, bad := plain(3, 4), plain(3, 3)
	for range 3 {
		wantMay(t, good, true)
		wantMay(t, bad, false)
		wantMay(t, api.Job{}, false)
		wantRead(t, "source 1", plain(1))
		wantNoRead(t, "walks 3\nsource 1\nwalks 4", 3, api.ErrState)
	}
}
