package job

import (
	"math"
	"math/rand"
	"palmer/api"
	"slices"
	"strings"
	"testing"
)

// usualText is the text of a job with all defaults, but for its sources.
const usualText = "walk fixed\nseed 0\nlength 10\nwalks 1\nrestart 0 1\nbias 1 1\ntries 100\nbest 10\nshard 1024\nroom 4096\npool 64\nsort 64\n"

// wantNoPrint: P19.1 and P0.2, a job that is not valid has no text.
func wantNoPrint(t *testing.T, j api.Job) {
	t.Helper()
	if b, err := Print(j); len(b) != 0 || err != api.ErrForm {
		t.Errorf("Print(%s) is %q and %d", shown(j), b, err)
	}
}

// TestPrintKnown: P19.1, a line for each keyword in the order of the table, then one for each source, by hand.
func TestPrintKnown(t *testing.T) {
	wantPrint(t, plain(5), usualText+"source 5\n")
	wantPrint(t, rightJob, "walk second\nseed 9\nlength 8\nwalks 7\nrestart 2 3\nbias 5 6\ntries 12\nbest 13\nshard 14\nroom 15\npool 16\nsort 17\nsource 18\n")
	wantPrint(t, plain(9, 0, 4294967295, 3), usualText+"source 9\nsource 0\nsource 4294967295\nsource 3\n")
	j := plain(2, 1)
	j.Kind = api.Restart
	wantPrint(t, j, "walk restart\n"+strings.TrimPrefix(usualText, "walk fixed\n")+"source 2\nsource 1\n")
}

// TestPrintEnds: P19.1, all numbers at their minimum, and at their maximum, by hand.
func TestPrintEnds(t *testing.T) {
	low := api.Job{Walks: 1, Sources: []uint32{0}, Of: 1, P: 1, Q: 1, Tries: 1, Budget: api.Budget{Shard: 1, Room: 1, Pool: 2, Sort: 1}}
	wantPrint(t, low, "walk fixed\nseed 0\nlength 0\nwalks 1\nrestart 0 1\nbias 1 1\ntries 1\nbest 0\nshard 1\nroom 1\npool 2\nsort 1\nsource 0\n")
	high := api.Job{
		Kind: api.Second, Seed: math.MaxUint64, Length: api.MaxLength, Walks: api.MaxWalks, Sources: []uint32{math.MaxUint32}, Stop: math.MaxUint32, Of: math.MaxUint32,
		P: api.MaxBias, Q: api.MaxBias, Tries: api.MaxTries, Best: api.MaxBest, Budget: api.Budget{Shard: api.MaxShard, Room: api.MaxBytes, Pool: api.MaxPool, Sort: api.MaxRoom},
	}
	wantPrint(t, high, "walk second\nseed 18446744073709551615\nlength 65536\nwalks 65536\nrestart 4294967295 4294967295\nbias 65536 65536\ntries 1024\nbest 1024\nshard 65536\nroom 16777216\npool 65536\nsort 4096\nsource 4294967295\n")
}

// TestPrintLimits: P19.1, each number at its limits, with the rest at their defaults, in its own line and at its own place.
func TestPrintLimits(t *testing.T) {
	for _, r := range table {
		usual := r.line(num(r.usual))
		if r.field == "Stop" {
			usual = "restart 0 1"
		}
		for _, n := range []uint64{r.least, r.least + 1, 77, r.most - 1, r.most} {
			want := strings.Replace(usualText, usual+"\n", r.line(num(n))+"\n", 1) + "source 7\n"
			wantPrint(t, r.with(n), want)
		}
	}
}

// TestPrintSources: P19.1, sources in an order that is not sorted, and as many as there can be.
func TestPrintSources(t *testing.T) {
	for n := 1; n <= 256; n++ {
		l := count(n)
		wantPrint(t, plain(l...), usualText+sourceLines(l))
		slices.Reverse(l)
		wantPrint(t, plain(l...), usualText+sourceLines(l))
	}
	l := make([]uint32, 256)
	for i := range l {
		l[i] = math.MaxUint32 - uint32(i)
	}
	wantPrint(t, plain(l...), usualText+sourceLines(l))
}

// TestPrintNot: P19.1, a job that is not valid has no text, whatever is wrong with it.
func TestPrintNot(t *testing.T) {
	for _, j := range []api.Job{{}, plain(), plain(1, 1), plain(3, 1, 2, 3), plain(count(257)...), {Sources: []uint32{1}}} {
		wantNoPrint(t, j)
	}
	for kind := 3; kind < 256; kind++ {
		j := plain(1)
		j.Kind = uint8(kind)
		wantNoPrint(t, j)
	}
	for _, r := range table {
		if r.least > 0 {
			wantNoPrint(t, r.with(r.least-1))
		}
		if r.most < math.MaxUint64 && r.fits(r.most+1) {
			wantNoPrint(t, r.with(r.most+1))
		}
	}
	j := plain(1)
	j.Stop = 2
	wantNoPrint(t, j)
}

// TestReadBack: P19.2, valid jobs without a pattern are read back as they were printed, also without the last line feed, and with other lines between.
func TestReadBack(t *testing.T) {
	r := rand.New(rand.NewSource(34))
	for range 2000 {
		j := someJob(r)
		wantPrint(t, j, slowPrint(j))
		b, _ := Print(j)
		text := string(b)
		wantRead(t, strings.TrimSuffix(text, "\n"), j)
		wantRead(t, "\n"+strings.ReplaceAll(text, "\n", "\n# source 1\n\t\n"), j)
	}
}

// TestPrintRead: P19.2, what was read is written as the one form of its text.
func TestPrintRead(t *testing.T) {
	for _, c := range []struct{ text, want string }{
		{"source 5", usualText + "source 5\n"},
		{" source\t9\n# a note\nsource 3 \n\nwalks 7", strings.Replace(usualText, "walks 1", "walks 7", 1) + "source 9\nsource 3\n"},
		{usualText + "source 1", usualText + "source 1\n"},
		{"source 1\n" + usualText + "source 0", usualText + "source 1\nsource 0\n"},
	} {
		j, _, err := Read([]byte(c.text))
		if err != api.OK {
			t.Errorf("Read(%s) is error %d", shown(c.text), err)
		}
		wantPrint(t, j, c.want)
	}
}

// TestPrintArgument: P0.4, the sources are not changed, nor what is behind them in their memory, which is not written either.
func TestPrintArgument(t *testing.T) {
	whole := count(12)
	before := slices.Clone(whole)
	for to := range len(whole) + 1 {
		for from := range to {
			j := plain()
			j.Sources = whole[from:to]
			wantPrint(t, j, usualText+sourceLines(before[from:to]))
			if !slices.Equal(whole, before) {
				t.Fatalf("Print of sources %d to %d has made %v of %v", from, to, whole, before)
			}
		}
	}
}

// TestPrintOwn: P0.4, a text that was returned stays as it is, whatever becomes of the sources and of other texts.
func TestPrintOwn(t *testing.T) {
	for n := 1; n < 20; n++ {
		j := plain(count(n)...)
		want := slowPrint(j)
		one, _ := Print(j)
		other, _ := Print(j)
		clear(one[:cap(one)])
		_ = append(one[:0], "another text"...)
		clear(j.Sources)
		if string(other) != want {
			t.Errorf("%q has become %q", want, other)
		}
	}
}

// TestPrintAgain: P0.6, a job has the same text whenever it is printed, also behind one that has none.
func TestPrintAgain(t *testing.T) {
	jobs := []api.Job{plain(1), rightJob, {}, plain(2, 2), plain(count(256)...), plain(count(257)...)}
	for _, ahead := range jobs {
		for _, j := range jobs {
			Print(ahead)
			if slowMay(j) {
				wantPrint(t, j, slowPrint(j))
			} else {
				wantNoPrint(t, j)
			}
		}
	}
}
