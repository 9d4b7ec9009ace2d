package runs

import (
	"encoding/binary"
	"hash/crc32"
	"iter"
	"maps"
	"palmer/api"
	"palmer/disk"
	"palmer/mix"
	"palmer/store"
	"slices"
	"strconv"
	"strings"
	"testing"
)

const (
	body     = 1 << 20 // the bytes of a section's body, and those of a file, by their chapters
	edges    = 13      // the bytes of a section beside its body
	widest   = 64      // the limits of this layer
	roomiest = 4096
	longest  = 16
)

// dice gives numbers without a pattern, the same in each run.
type dice struct{ n uint64 }

func (d *dice) wide() uint64 {
	d.n++
	return mix.Mix(d.n)
}

func (d *dice) below(n int) int {
	return int(d.wide() % uint64(n))
}

// record is one of n bytes, of which there are few kinds, so that records are often alike.
func (d *dice) record(n, kinds int) string {
	b := make([]byte, n)
	for i := range b {
		b[i] = byte(d.below(kinds) * 255 / max(kinds-1, 1))
	}
	return string(b)
}

// records are that many.
func (d *dice) records(count, width, kinds int) []string {
	var l []string
	for range count {
		l = append(l, d.record(width, kinds))
	}
	return l
}

// slowSection is the encoding of a section by its chapter, with its checksums by the library.
func slowSection(kind byte, body string) string {
	b := binary.LittleEndian.AppendUint32([]byte{kind}, uint32(len(body)))
	b = binary.LittleEndian.AppendUint32(b, crc32.ChecksumIEEE(b))
	b = append(b, body...)
	return string(binary.LittleEndian.AppendUint32(b, crc32.ChecksumIEEE([]byte(body))))
}

// slowRun is the contents of a run's file by the chapter.
func slowRun(recs ...string) string {
	return slowSection(82, strings.Join(recs, ""))
}

// slowRead are the records of a run, if a file's contents are one of that width.
func slowRead(b string, width int) ([]string, bool) {
	if len(b) < edges {
		return nil, false
	}
	var l []string
	rest := b[edges-4 : len(b)-4]
	for len(rest) >= width {
		l = append(l, rest[:width])
		rest = rest[width:]
	}
	return l, rest == "" && slices.IsSorted(l) && b == slowRun(l...)
}

// slow is a sorter by the chapter, and the store that it is on: what is committed, and what there is with the changes.
type slow struct {
	saved, files map[string]string
	down         bool
	prefix       string
	width, room  int
	held         []string
	runs         []int // the numbers of the runs
	next         int
}

// again is another sorter on the same store.
func (s *slow) again(width, room int) {
	s.width, s.room, s.held, s.runs, s.next = width, room, nil, nil, 0
	for {
		if _, ok := s.files[s.name(s.next)]; !ok {
			return
		}
		s.runs = append(s.runs, s.next)
		s.next++
	}
}

func (s *slow) name(n int) string {
	return s.prefix + strconv.Itoa(n)
}

func (s *slow) put(rec string) api.Errno {
	if len(rec) != s.width {
		return api.ErrForm
	}
	if len(s.held) == s.room {
		if err := s.flush(); err != api.OK {
			return err
		}
	}
	s.held = append(s.held, rec)
	return api.OK
}

// write makes records one more run.
func (s *slow) write(recs []string) api.Errno {
	switch b := slowRun(recs...); {
	case s.down:
		return api.ErrDown
	case len(b) > body:
		return api.ErrLong
	default:
		s.files[s.name(s.next)] = b
	}
	s.runs = append(s.runs, s.next)
	s.next++
	return api.OK
}

func (s *slow) flush() api.Errno {
	if len(s.held) == 0 {
		return api.OK
	}
	err := s.write(slices.Sorted(slices.Values(s.held)))
	if err == api.OK {
		s.held = nil
	}
	return err
}

func (s *slow) rows() ([]string, api.Errno) {
	l := slices.Clone(s.held)
	for _, n := range s.runs {
		b, ok := s.files[s.name(n)]
		switch {
		case s.down:
			return nil, api.ErrDown
		case !ok:
			return nil, api.ErrName
		}
		recs, ok := slowRead(b, s.width)
		if !ok {
			return nil, api.ErrCorrupt
		}
		l = append(l, recs...)
	}
	slices.Sort(l)
	return l, api.OK
}

func (s *slow) clear() api.Errno {
	s.held = nil
	for len(s.runs) > 0 {
		if s.down {
			return api.ErrDown
		}
		if _, ok := s.files[s.name(s.runs[0])]; !ok {
			return api.ErrName
		}
		delete(s.files, s.name(s.runs[0]))
		s.runs = s.runs[1:]
	}
	s.next = 0
	return api.OK
}

func (s *slow) rewrite(recs []string) api.Errno {
	for _, rec := range recs {
		if len(rec) != s.width {
			return api.ErrForm
		}
	}
	switch {
	case !slices.IsSorted(recs):
		return api.ErrForm
	case len(recs)*s.width > body:
		return api.ErrLong
	}
	if err := s.clear(); err != api.OK || len(recs) == 0 {
		return err
	}
	return s.write(recs)
}

func newDisk(t *testing.T, count int) *disk.Disk {
	t.Helper()
	d, err := disk.New(count)
	wantErrno(t, "disk.New", err, api.OK)
	return d
}

// opened is the store on a disk.
func opened(t *testing.T, d *disk.Disk) *store.Store {
	t.Helper()
	s, err := store.Open(d)
	wantErrno(t, "store.Open", err, api.OK)
	return s
}

// filled is a store with these files, as changes.
func filled(t *testing.T, files map[string]string) *store.Store {
	t.Helper()
	s := opened(t, newDisk(t, 2000))
	for name, b := range files {
		wantErrno(t, "store.Write", s.Write(name, []byte(b)), api.OK)
	}
	return s
}

// sorter is one that there is to be.
func sorter(t *testing.T, s *store.Store, prefix string, width, room int) *Sorter {
	t.Helper()
	x, err := New(s, prefix, width, room)
	if x == nil || err != api.OK {
		t.Fatalf("New(%q, %d, %d) is error %d", prefix, width, room, err)
	}
	return x
}

func put(t *testing.T, x *Sorter, recs ...string) {
	t.Helper()
	for _, rec := range recs {
		wantErrno(t, "Put", x.Put([]byte(rec)), api.OK)
	}
}

func flush(t *testing.T, x *Sorter, recs ...string) {
	t.Helper()
	put(t, x, recs...)
	wantErrno(t, "Flush", x.Flush(), api.OK)
}

func wantErrno(t *testing.T, what string, got, want api.Errno) {
	t.Helper()
	if got != want {
		t.Fatalf("%s is error %d, not %d", what, got, want)
	}
}

func wantCounts(t *testing.T, x *Sorter, held, runs int) {
	t.Helper()
	if x.Held() != held || x.Runs() != runs {
		t.Fatalf("Held is %d, not %d, and Runs is %d, not %d", x.Held(), held, x.Runs(), runs)
	}
}

// gone are the records of an iterator, all that it gives.
func gone(seq iter.Seq[[]byte]) []string {
	var l []string
	for rec := range seq {
		l = append(l, string(rec))
	}
	return l
}

// rows is an iterator that there is to be.
func rows(t *testing.T, x *Sorter) iter.Seq[[]byte] {
	t.Helper()
	seq, err := x.Rows()
	if seq == nil || err != api.OK {
		t.Fatalf("Rows is error %d", err)
	}
	return seq
}

// shown are records, or how many there are if they are many.
func shown(l []string) string {
	if len(l) > 20 {
		return strconv.Itoa(len(l)) + " records"
	}
	return strconv.Quote(strings.Join(l, ","))
}

func wantSeq(t *testing.T, seq iter.Seq[[]byte], want ...string) {
	t.Helper()
	if got := gone(seq); !slices.Equal(got, want) {
		t.Fatalf("the records are %s, not %s", shown(got), shown(want))
	}
}

func wantRows(t *testing.T, x *Sorter, want ...string) {
	t.Helper()
	wantSeq(t, rows(t, x), want...)
}

// wantNoRows: P0.2, beside an error there is no iterator.
func wantNoRows(t *testing.T, x *Sorter, want api.Errno) {
	t.Helper()
	if seq, err := x.Rows(); seq != nil || err != want {
		t.Fatalf("Rows is error %d, not %d, and there is an iterator: %v", err, want, seq != nil)
	}
}

// wantFiles says which files a store has, and what they contain.
func wantFiles(t *testing.T, s *store.Store, want map[string]string) {
	t.Helper()
	if got := s.Names(); !slices.Equal(got, slices.Sorted(maps.Keys(want))) {
		t.Fatalf("the files are %q, not %q", got, slices.Sorted(maps.Keys(want)))
	}
	for name, b := range want {
		if got, err := s.Read(name); string(got) != b || err != api.OK {
			t.Fatalf("file %q is %d bytes %q and error %d, not %d bytes %q", name, len(got), got[:min(len(got), 100)], err, len(b), b[:min(len(b), 100)])
		}
	}
}

// lists are records as bytes, each with memory of its own.
func lists(recs []string) [][]byte {
	var l [][]byte
	for _, rec := range recs {
		l = append(l, []byte(rec))
	}
	return l
}
