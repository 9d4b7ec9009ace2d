package job

import (
	"fmt"
	"math"
	"math/big"
	"math/rand"
	"palmer/api"
	"reflect"
	"regexp"
	"slices"
	"strconv"
	"strings"
	"testing"
)

// row is a number of the chapter's table: the field, the keyword, the words around it in its line, and its limits.
type row struct {
	field, keyword, ahead, behind string
	least, most, usual            uint64
}

// table is the chapter's, but for the kind and the sources, by hand.
var table = []row{
	{"Seed", "seed", "", "", 0, 18446744073709551615, 0},
	{"Length", "length", "", "", 0, 65536, 10},
	{"Walks", "walks", "", "", 1, 65536, 1},
	{"Stop", "restart", "", " 4294967295", 0, 4294967295, 0},
	{"Of", "restart", "0 ", "", 1, 4294967295, 1},
	{"P", "bias", "", " 1", 1, 65536, 1},
	{"Q", "bias", "1 ", "", 1, 65536, 1},
	{"Tries", "tries", "", "", 1, 1024, 100},
	{"Best", "best", "", "", 0, 1024, 10},
	{"Budget.Shard", "shard", "", "", 1, 65536, 1024},
	{"Budget.Room", "room", "", "", 1, 16777216, 4096},
	{"Budget.Pool", "pool", "", "", 2, 65536, 64},
	{"Budget.Sort", "sort", "", "", 1, 4096, 64},
}

// keywords are all of them, in the order in which they are printed.
var keywords = []string{"walk", "seed", "length", "walks", "restart", "bias", "tries", "best", "shard", "room", "pool", "sort", "source"}

// kindWords are the words for the kinds of walks.
var kindWords = map[string]uint8{"fixed": 0, "restart": 1, "second": 2}

// at is the field of a job.
func at(j *api.Job, field string) reflect.Value {
	v := reflect.ValueOf(j).Elem()
	for _, name := range strings.Split(field, ".") {
		v = v.FieldByName(name)
	}
	return v
}

// plain is the job of a text with these sources alone.
func plain(sources ...uint32) api.Job {
	j := api.Job{Kind: api.Fixed, Sources: sources}
	for _, r := range table {
		at(&j, r.field).SetUint(r.usual)
	}
	return j
}

// with is the plain job with another number; a Stop has room below the Of.
func (r row) with(n uint64) api.Job {
	j := plain(7)
	if r.field == "Stop" {
		j.Of = math.MaxUint32
	}
	at(&j, r.field).SetUint(n)
	return j
}

// line is the line that sets the number of a row to what the word is.
func (r row) line(word string) string {
	return r.keyword + " " + r.ahead + word + r.behind
}

// fits reports whether the field of a row can have a number.
func (r row) fits(n uint64) bool {
	return !at(&api.Job{}, r.field).OverflowUint(n)
}

// count are that many sources.
func count(n int) []uint32 {
	var l []uint32
	for i := range n {
		l = append(l, uint32(i)*2654435761) // no two are the same, and they are not sorted
	}
	return l
}

// sourceLines is the text of sources.
func sourceLines(l []uint32) string {
	var b strings.Builder
	for _, s := range l {
		fmt.Fprintf(&b, "source %d\n", s)
	}
	return b.String()
}

// same reports whether two jobs are equal; no sources are equal, nil or not.
func same(a, b api.Job) bool {
	if !slices.Equal(a.Sources, b.Sources) {
		return false
	}
	a.Sources, b.Sources = nil, nil
	return reflect.DeepEqual(a, b)
}

// shown is a text or a job, or the beginning of it if it is long.
func shown(x any) string {
	s := fmt.Sprintf("%+v", x)
	if text, ok := x.(string); ok {
		s = strconv.Quote(text)
	}
	if len(s) > 400 {
		return s[:400] + "... (" + strconv.Itoa(len(s)) + " bytes)"
	}
	return s
}

// slowMay is whether a job is valid, by the chapter.
func slowMay(j api.Job) bool {
	for _, r := range table {
		if n := at(&j, r.field).Uint(); n < r.least || n > r.most {
			return false
		}
	}
	set := map[uint32]bool{}
	for _, s := range j.Sources {
		set[s] = true
	}
	return j.Kind < 3 && len(set) == len(j.Sources) && len(set) >= 1 && len(set) <= 256 && j.Stop <= j.Of
}

var (
	wordForm   = regexp.MustCompile(`[^ \t]+`)
	numberForm = regexp.MustCompile(`^(0|[1-9][0-9]*)$`)
)

// slowNum is the number that a word is, by the chapter, in integers without a bound.
func slowNum(word string, least, most uint64) (uint64, api.Errno) {
	if !numberForm.MatchString(word) {
		return 0, api.ErrForm
	}
	n, _ := new(big.Int).SetString(word, 10)
	if n.Cmp(new(big.Int).SetUint64(least)) < 0 || n.Cmp(new(big.Int).SetUint64(most)) > 0 {
		return 0, api.ErrRange
	}
	return n.Uint64(), api.OK
}

// slowSource adds a source, by the chapter.
func slowSource(j *api.Job, word string) api.Errno {
	n, err := slowNum(word, 0, 4294967295)
	if err != api.OK {
		return err
	}
	for _, s := range j.Sources {
		if uint64(s) == n {
			return api.ErrState
		}
	}
	if len(j.Sources) >= 256 {
		return api.ErrLong
	}
	j.Sources = append(j.Sources, uint32(n))
	return api.OK
}

// slowLine is what a line with words does to a job, by the chapter. Ahead are the keywords of the lines ahead of it.
func slowLine(j *api.Job, ahead []string, words []string) api.Errno {
	wants := map[string]int{"restart": 2, "bias": 2}
	keyword := words[0]
	if !slices.Contains(keywords, keyword) || len(words)-1 != max(1, wants[keyword]) {
		return api.ErrLine
	}
	if keyword == "source" {
		return slowSource(j, words[1])
	}
	if slices.Contains(ahead, keyword) {
		return api.ErrState
	}
	if keyword == "walk" {
		kind, ok := kindWords[words[1]]
		if !ok {
			return api.ErrForm
		}
		j.Kind = kind
	}
	words = words[1:]
	for _, r := range table {
		if r.keyword != keyword {
			continue
		}
		n, err := slowNum(words[0], r.least, r.most)
		if err != api.OK {
			return err
		}
		at(j, r.field).SetUint(n)
		words = words[1:]
	}
	if j.Stop > j.Of {
		return api.ErrRange
	}
	return api.OK
}

// slowRead is the job of a text, by the chapter.
func slowRead(b string) (api.Job, int, api.Errno) {
	if len(b) > 1048576 {
		return api.Job{}, 0, api.ErrLong
	}
	j := plain()
	var ahead []string
	for i, line := range strings.Split(b, "\n") {
		words := wordForm.FindAllString(line, -1)
		if len(words) == 0 || words[0][0] == '#' {
			continue
		}
		if err := slowLine(&j, ahead, words); err != api.OK {
			return api.Job{}, i + 1, err
		}
		ahead = append(ahead, words[0])
	}
	if len(j.Sources) == 0 {
		return api.Job{}, 0, api.ErrArg
	}
	return j, 0, api.OK
}

// slowPrint is the text of a valid job, by the chapter.
func slowPrint(j api.Job) string {
	b := j.Budget
	return fmt.Sprintf("walk %s\nseed %d\nlength %d\nwalks %d\nrestart %d %d\nbias %d %d\ntries %d\nbest %d\nshard %d\nroom %d\npool %d\nsort %d\n",
		[]string{"fixed", "restart", "second"}[j.Kind], j.Seed, j.Length, j.Walks, j.Stop, j.Of, j.P, j.Q, j.Tries, j.Best, b.Shard, b.Room, b.Pool, b.Sort) + sourceLines(j.Sources)
}

// someNumber is a number within the limits of a row, often at one of them, and otherwise of any size.
func someNumber(r *rand.Rand, of row) uint64 {
	switch r.Intn(6) {
	case 0:
		return of.least
	case 1:
		return of.most
	}
	n := r.Uint64() >> r.Intn(64)
	return min(max(n, of.least), of.most)
}

// someJob is a valid job without a pattern.
func someJob(r *rand.Rand) api.Job {
	j := api.Job{Kind: uint8(r.Intn(3))}
	for _, of := range table {
		at(&j, of.field).SetUint(someNumber(r, of))
	}
	if j.Stop > j.Of {
		j.Stop %= j.Of + 1
	}
	j.Sources = count(r.Intn(300)%256 + 1)
	r.Shuffle(len(j.Sources), func(i, k int) { j.Sources[i], j.Sources[k] = j.Sources[k], j.Sources[i] })
	return j
}

// wantMay: P19.1, whether a job is valid; how many walkers it has, and whether it has a text, hang on that.
func wantMay(t *testing.T, j api.Job, want bool) {
	t.Helper()
	if got := May(j); got != want {
		t.Errorf("May(%s) is %v", shown(j), got)
	}
	walkers := uint32(0)
	if want {
		walkers = uint32(len(j.Sources)) * j.Walks
	}
	if got := Walkers(j); got != walkers {
		t.Errorf("Walkers(%s) is %d, not %d", shown(j), got, walkers)
	}
	if want {
		wantPrint(t, j, slowPrint(j))
	} else if b, err := Print(j); len(b) != 0 || err != api.ErrForm {
		t.Errorf("Print(%s) is %q and %d, not nothing and %d", shown(j), b, err, api.ErrForm)
	}
}

// wantRead: P19.1 and P19.2, which job a text has, and that it is valid.
func wantRead(t *testing.T, b string, want api.Job) {
	t.Helper()
	j, number, err := Read([]byte(b))
	if !same(j, want) || number != 0 || err != api.OK {
		t.Errorf("Read(%s) is %s, %d and %d, not %s", shown(b), shown(j), number, err, shown(want))
	}
	if !May(j) {
		t.Errorf("Read(%s) is %s, which is not valid", shown(b), shown(j))
	}
}

// wantNoRead: P19.1 and P0.2, a text has an error in that line, and beside it the zero job.
func wantNoRead(t *testing.T, b string, want int, wantErr api.Errno) {
	t.Helper()
	j, number, err := Read([]byte(b))
	if !same(j, api.Job{}) || number != want || err != wantErr {
		t.Errorf("Read(%s) is %s, %d and %d, not nothing, %d and %d", shown(b), shown(j), number, err, want, wantErr)
	}
}

// wantSlowRead: P19.1, a text is what it is by the chapter.
func wantSlowRead(t *testing.T, b string) {
	t.Helper()
	if j, number, err := slowRead(b); err == api.OK {
		wantRead(t, b, j)
	} else {
		wantNoRead(t, b, number, err)
	}
}

// wantPrint: P19.1 and P19.2, which text a job has, and that it is read back.
func wantPrint(t *testing.T, j api.Job, want string) {
	t.Helper()
	b, err := Print(j)
	if string(b) != want || err != api.OK {
		t.Errorf("Print(%s) is %s and %d, not %s", shown(j), shown(string(b)), err, shown(want))
	}
	wantRead(t, string(b), j)
}
