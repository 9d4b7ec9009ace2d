package store

import (
	"bytes"
	"encoding/binary"
	"hash/crc32"
	"math"
	"palmer/api"
	"palmer/disk"
	"palmer/manifest"
	"palmer/mix"
	"slices"
	"strings"
	"testing"
)

const (
	size  = 128     // the bytes of a block, by its chapter
	slot  = 16      // the blocks of a slot
	first = 32      // the first block of files
	room  = 112     // the bytes of a page
	most  = 1 << 20 // the bytes of a file
	long  = 32      // the bytes of a name
	all   = math.MaxUint64

	slotOperations = 2 * (slot + 1) // of the manifest: the blocks of each slot, and a sync
)

// dice gives numbers without a pattern, the same in each run.
type dice struct{ n uint64 }

func (d *dice) wide() uint64 {
	d.n++
	return mix.Mix(d.n)
}

func (d *dice) below(n int) int {
	return int(d.wide() % uint64(n))
}

// some are n bytes without a pattern, others with each seed.
func some(seed uint64, n int) string {
	x := &dice{seed << 32}
	b := make([]byte, n)
	for i := range b {
		b[i] = byte(x.wide())
	}
	return string(b)
}

// operation is a block that is written, or a sync where at is negative.
type operation struct {
	at int
	b  []byte
}

var sync = operation{at: -1}

// after is what is stored permanently when n operations succeed and then the power fails.
func after(image []byte, l []operation, n int, keep, torn uint64) []byte {
	image = bytes.Clone(image)
	var pending []operation
	for _, x := range l[:n] {
		if x.at >= 0 {
			pending = append(pending, x)
			continue
		}
		settle(image, pending, all, 0)
		pending = nil
	}
	settle(image, pending, keep, torn)
	return image
}

func settle(image []byte, l []operation, keep, torn uint64) {
	for i, x := range l {
		switch {
		case keep>>(i%64)&1 == 1:
			copy(image[x.at*size:], x.b)
		case torn>>(i%64)&1 == 1:
			copy(image[x.at*size:], x.b[:size/2])
		}
	}
}

// slowPage is a page by its chapter, with its checksum by the library.
func slowPage(id, place uint32, part string) []byte {
	var b []byte
	for _, n := range []uint32{id, place, uint32(len(part))} {
		b = binary.LittleEndian.AppendUint32(b, n)
	}
	b = append(append(b, part...), make([]byte, room-len(part))...)
	return binary.LittleEndian.AppendUint32(b, crc32.ChecksumIEEE(b))
}

// slowPages are the parts of contents, in order.
func slowPages(body string) []string {
	var l []string
	for body != "" {
		n := min(room, len(body))
		l = append(l, body[:n])
		body = body[n:]
	}
	return l
}

// slotWrites are the operations by which a manifest is written.
func slotWrites(m api.Manifest) []operation {
	b, _ := manifest.Put(m)
	var l []operation
	for i := range uint64(2) {
		start := int((m.Version+i)%2) * slot
		for k := range slot {
			l = append(l, operation{start + k, b[k*size:][:size]})
		}
		l = append(l, sync)
	}
	return l
}

// slow is a store by the chapter, and what its disk stores permanently: changes are contents, or nil for a removed file.
type slow struct {
	image   []byte
	m       api.Manifest
	changes map[string]*string
}

// committed are the contents of a file of the manifest, if its pages are valid.
func (s *slow) committed(f api.File) (string, api.Errno) {
	body := ""
	for i, at := range f.Blocks {
		block := s.image[at*size:][:size]
		want := room
		if i == len(f.Blocks)-1 {
			want = f.Size - i*room
		}
		part := string(block[12:][:want])
		if !bytes.Equal(block, slowPage(f.Id, uint32(i), part)) {
			return "", api.ErrCorrupt
		}
		body += part
	}
	return body, api.OK
}

// file is the one of the manifest that has a name.
func (s *slow) file(name string) (api.File, bool) {
	for _, f := range s.m.Files {
		if f.Name == name {
			return f, true
		}
	}
	return api.File{}, false
}

// length is that of a file's contents, or negative if there is no such file.
func (s *slow) length(name string) int {
	if body, ok := s.changes[name]; ok {
		if body == nil {
			return -1
		}
		return len(*body)
	}
	if f, ok := s.file(name); ok {
		return f.Size
	}
	return -1
}

func (s *slow) names() []string {
	var l []string
	for _, f := range s.m.Files {
		l = append(l, f.Name)
	}
	for name := range s.changes {
		l = append(l, name)
	}
	slices.Sort(l)
	l = slices.Compact(l)
	return slices.DeleteFunc(l, func(name string) bool { return s.length(name) < 0 })
}

func (s *slow) read(name string) (string, api.Errno) {
	if s.length(name) < 0 {
		return "", api.ErrName
	}
	if body := s.changes[name]; body != nil {
		return *body, api.OK
	}
	f, _ := s.file(name)
	return s.committed(f)
}

func (s *slow) write(name, body string) api.Errno {
	switch {
	case len(name) < 1 || len(name) > long:
		return api.ErrName
	case len(body) > most:
		return api.ErrLong
	}
	s.changes[name] = &body
	return api.OK
}

func (s *slow) append(name, body string) api.Errno {
	if len(name) < 1 || len(name) > long {
		return api.ErrName
	}
	if max(0, s.length(name))+len(body) > most {
		return api.ErrLong
	}
	old, err := s.read(name)
	if err == api.ErrCorrupt {
		return err
	}
	return s.write(name, old+body)
}

func (s *slow) remove(name string) api.Errno {
	if s.length(name) < 0 {
		return api.ErrName
	}
	s.changes[name] = nil
	return api.OK
}

// free are the blocks that are free for the next commit, from the lowest on.
func (s *slow) free() []int {
	var l []int
	for i := first; i < len(s.image)/size; i++ {
		if !slices.ContainsFunc(s.m.Files, func(f api.File) bool { return slices.Contains(f.Blocks, i) }) {
			l = append(l, i)
		}
	}
	return l
}

// plan is the manifest that a commit writes, and all operations of that commit; or false if it is impossible.
func (s *slow) plan() (api.Manifest, []operation, bool) {
	var l []operation
	free := s.free()
	next := uint64(s.m.Next)
	m := api.Manifest{Version: s.m.Version + 1}
	for _, name := range s.names() {
		body, changed := s.changes[name]
		if !changed {
			f, _ := s.file(name)
			m.Files = append(m.Files, f)
			continue
		}
		parts := slowPages(*body)
		if len(parts) > len(free) {
			return m, nil, false
		}
		for i, part := range parts {
			l = append(l, operation{free[i], slowPage(uint32(next), uint32(i), part)})
		}
		m.Files = append(m.Files, api.File{Name: name, Id: uint32(next), Size: len(*body), Blocks: free[:len(parts)]})
		free = free[len(parts):]
		next++
	}
	m.Next = uint32(next)
	if next > math.MaxUint32 || m.Version == 0 || !manifest.May(m) {
		return m, nil, false
	}
	return m, append(append(l, sync), slotWrites(m)...), true
}

// crash is what tells which pending writes survive, and which are torn.
type crash struct{ keep, torn uint64 }

var crashes = []crash{
	{0, 0}, {all, 0}, {0, all}, {1, 0}, {2, 0}, {1 << 15, 0}, {1, all}, {0x5555555555555555, 0}, {0xaaaaaaaaaaaaaaaa, 0x5555555555555555},
	{0xff, 0}, {0xff00, 0}, {0xfffffffffffffffe, 0}, {0x7fff, 0x8000}, {^uint64(1), 1}, {0, 1}, {0xf0f0, 0x3c3c},
}

// newDisk is a disk of count blocks.
func newDisk(t *testing.T, count int) *disk.Disk {
	t.Helper()
	d, err := disk.New(count)
	if err != api.OK {
		t.Fatalf("a disk of %d blocks is error %d", count, err)
	}
	return d
}

// filled is a disk that stores an image permanently.
func filled(t *testing.T, image []byte) *disk.Disk {
	t.Helper()
	d := newDisk(t, len(image)/size)
	for i := range d.Count() {
		wantErrno(t, "Write of a block", d.Write(i, image[i*size:][:size]), api.OK)
	}
	wantErrno(t, "Sync", d.Sync(), api.OK)
	return d
}

// image is what a disk contains, whether it is pending or not.
func image(t *testing.T, d *disk.Disk) []byte {
	t.Helper()
	var b []byte
	for i := range d.Count() {
		block, err := d.Read(i)
		if err != api.OK {
			t.Fatalf("block %d is not read: error %d", i, err)
		}
		b = append(b, block...)
	}
	return b
}

func wantImage(t *testing.T, d *disk.Disk, want []byte) {
	t.Helper()
	b := image(t, d)
	for i := range d.Count() {
		if !bytes.Equal(b[i*size:][:size], want[i*size:][:size]) {
			t.Fatalf("block %d is %q, not %q", i, b[i*size:][:size], want[i*size:][:size])
		}
	}
}

func wantErrno(t *testing.T, what string, got, want api.Errno) {
	t.Helper()
	if got != want {
		t.Fatalf("%s is error %d, not %d", what, got, want)
	}
}

// opened is the store on a disk that is to have one.
func opened(t *testing.T, d *disk.Disk) *Store {
	t.Helper()
	s, err := Open(d)
	if err != api.OK || s == nil {
		t.Fatalf("Open is error %d", err)
	}
	return s
}

// wantRead says what a file contains.
func wantRead(t *testing.T, s *Store, name, want string) {
	t.Helper()
	if b, err := s.Read(name); err != api.OK || string(b) != want {
		t.Fatalf("Read(%q) is %q and %d, not %q", name, b, err, want)
	}
}

// wantNoRead says that a file is not read, and that nothing is beside the error.
func wantNoRead(t *testing.T, s *Store, name string, want api.Errno) {
	t.Helper()
	if b, err := s.Read(name); err != want || len(b) != 0 {
		t.Fatalf("Read(%q) is %q and %d, not %d", name, b, err, want)
	}
}

func wantNames(t *testing.T, s *Store, want ...string) {
	t.Helper()
	if l := s.Names(); !slices.Equal(l, want) {
		t.Fatalf("Names is %q, not %q", l, want)
	}
}

// wantNumbers says what Version and Free are.
func wantNumbers(t *testing.T, s *Store, version uint64, free int) {
	t.Helper()
	if s.Version() != version || s.Free() != free {
		t.Fatalf("Version is %d, not %d, and Free is %d, not %d", s.Version(), version, s.Free(), free)
	}
}

// both are a disk and its store, and what they are by the chapter.
type both struct {
	d *disk.Disk
	s *Store
	m *slow
}

// openedBoth opens the store on a disk.
func openedBoth(t *testing.T, d *disk.Disk) *both {
	t.Helper()
	m, err := manifest.Read(d)
	if err != api.OK {
		t.Fatalf("the manifest is error %d", err)
	}
	x := &both{d, opened(t, d), &slow{image(t, d), m, map[string]*string{}}}
	if m.Version != 0 {
		l := slotWrites(m)
		x.m.image = after(x.m.image, l, len(l), 0, 0)
	}
	return x
}

// newBoth is a new store on a disk of count blocks, none of which is blank behind both slots.
func newBoth(t *testing.T, count int) *both {
	t.Helper()
	return openedBoth(t, filled(t, append(make([]byte, first*size), some(1, (count-first)*size)...)))
}

// again is another disk with the same contents, and the store on it, without changes.
func (x *both) again(t *testing.T) *both {
	t.Helper()
	return openedBoth(t, filled(t, x.m.image))
}

// want: P10.1, all that can be asked is as the chapter says, and so is the disk, of which nothing is pending.
func (x *both) want(t *testing.T) {
	t.Helper()
	wantNames(t, x.s, x.m.names()...)
	wantNumbers(t, x.s, x.m.m.Version, len(x.m.free()))
	for _, name := range append(x.m.names(), "", "none", "a", "b", "c", strings.Repeat("x", long+1)) {
		if body, err := x.m.read(name); err == api.OK {
			wantRead(t, x.s, name, body)
		} else {
			wantNoRead(t, x.s, name, err)
		}
	}
	if x.d.Waiting() != 0 || !x.d.On() {
		t.Fatalf("on is %v, and %d writes are pending", x.d.On(), x.d.Waiting())
	}
	wantImage(t, x.d, x.m.image)
}

func (x *both) write(t *testing.T, name, body string) {
	t.Helper()
	wantErrno(t, "Write", x.s.Write(name, []byte(body)), x.m.write(name, body))
}

func (x *both) append(t *testing.T, name, body string) {
	t.Helper()
	wantErrno(t, "Append", x.s.Append(name, []byte(body)), x.m.append(name, body))
}

func (x *both) remove(t *testing.T, name string) {
	t.Helper()
	wantErrno(t, "Remove", x.s.Remove(name), x.m.remove(name))
}

func (x *both) forget() {
	x.s.Forget()
	x.m.changes = map[string]*string{}
}

// commit: P10.1, a commit on a disk without a fuse.
func (x *both) commit(t *testing.T) {
	t.Helper()
	next, l, ok := x.m.plan()
	switch {
	case len(x.m.changes) == 0:
		wantErrno(t, "Commit without changes", x.s.Commit(), api.OK)
	case !ok:
		wantErrno(t, "Commit", x.s.Commit(), api.ErrFull)
	default:
		wantErrno(t, "Commit", x.s.Commit(), api.OK)
		x.m.image, x.m.m, x.m.changes = after(x.m.image, l, len(l), 0, 0), next, map[string]*string{}
	}
	x.want(t)
}

// fail: P10.1 and P10.2, a commit whose operation behind the first n fails; what is stored then is as the chapter says. The store is of no more use.
func (x *both) fail(t *testing.T, l []operation, n int, c crash) {
	t.Helper()
	x.d.Fuse(n)
	wantErrno(t, "Commit with a fuse", x.s.Commit(), api.ErrDown)
	if x.d.On() {
		t.Fatalf("the disk is on behind a fuse of %d", n)
	}
	x.d.Back(c.keep, c.torn)
	wantImage(t, x.d, after(x.m.image, l, n, c.keep, c.torn))
}
