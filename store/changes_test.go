package store

import (
	"bytes"
	"palmer/api"
	"strings"
	"testing"
)

// TestNew: P10.1, a new store, one with changes, behind a Commit, behind a Forget, and opened anew.
func TestNew(t *testing.T) {
	d := newDisk(t, 40)
	s := opened(t, d)
	wantNames(t, s)
	wantNumbers(t, s, 0, 8)
	wantNoRead(t, s, "a", api.ErrName)
	wantErrno(t, "Write", s.Write("b", []byte(some(1, 113))), api.OK)
	wantErrno(t, "Write", s.Write("a", []byte("one")), api.OK)
	wantNames(t, s, "a", "b")
	wantNumbers(t, s, 0, 8)
	wantRead(t, s, "a", "one")
	wantNames(t, opened(t, d))
	wantErrno(t, "Commit", s.Commit(), api.OK)
	for range 3 {
		wantNames(t, s, "a", "b")
		wantNumbers(t, s, 1, 5)
		wantRead(t, s, "a", "one")
		wantRead(t, s, "b", some(1, 113))
		wantNoRead(t, s, "c", api.ErrName)
		s = opened(t, d)
	}
	wantErrno(t, "Write", s.Write("a", []byte("two")), api.OK)
	wantErrno(t, "Remove", s.Remove("b"), api.OK)
	wantErrno(t, "Append", s.Append("c", []byte("three")), api.OK)
	wantNames(t, s, "a", "c")
	wantNumbers(t, s, 1, 5)
	wantRead(t, s, "a", "two")
	wantNoRead(t, s, "b", api.ErrName)
	wantRead(t, s, "c", "three")
	s.Forget()
	wantNames(t, s, "a", "b")
	wantNumbers(t, s, 1, 5)
	wantRead(t, s, "a", "one")
	wantRead(t, s, "b", some(1, 113))
	wantNoRead(t, s, "c", api.ErrName)
	s.Forget()
	wantErrno(t, "Commit", s.Commit(), api.OK)
	wantNumbers(t, s, 1, 5)
}

// TestNames: P10.1, the names with the changes applied, in ascending order of their bytes.
func TestNames(t *testing.T) {
	s := opened(t, newDisk(t, 60))
	for _, name := range []string{"b", "ab", "\x80", "a", "\xff", "A", "z", "\x00", "aa", "\x7f", "é"} {
		wantErrno(t, "Append", s.Append(name, nil), api.OK)
	}
	want := []string{"\x00", "A", "a", "aa", "ab", "b", "z", "\x7f", "\x80", "é", "\xff"}
	wantNames(t, s, want...)
	wantErrno(t, "Commit", s.Commit(), api.OK)
	wantNames(t, s, want...)
	wantErrno(t, "Append", s.Append("a", []byte("x")), api.OK)
	wantErrno(t, "Write", s.Write("b", nil), api.OK)
	wantNames(t, s, want...)
	for _, name := range want[1:] {
		wantErrno(t, "Remove", s.Remove(name), api.OK)
	}
	wantNames(t, s, "\x00")
	wantErrno(t, "Write", s.Write("a", nil), api.OK)
	wantErrno(t, "Append", s.Append("n", nil), api.OK)
	wantNames(t, s, "\x00", "a", "n")
	wantErrno(t, "Remove", s.Remove("n"), api.OK)
	wantErrno(t, "Remove", s.Remove("\x00"), api.OK)
	wantErrno(t, "Commit", s.Commit(), api.OK)
	wantNames(t, s, "a")
	wantErrno(t, "Remove", s.Remove("a"), api.OK)
	wantErrno(t, "Commit", s.Commit(), api.OK)
	wantNames(t, s)
	wantNumbers(t, s, 3, 28)
}

// TestSizes: P10.1 and P0.2, contents of each size at an edge: they are read while they are pending, when they are committed, and when the store is opened anew.
func TestSizes(t *testing.T) {
	for _, n := range []int{0, 1, 111, 112, 113, 223, 224, 225, 336, 1000} {
		for seed := range uint64(2) {
			body := some(seed, n)
			x := newBoth(t, 60)
			x.write(t, "a", "before")
			x.commit(t)
			x.write(t, "a", body)
			wantRead(t, x.s, "a", body)
			wantNumbers(t, x.s, 1, 27)
			x.commit(t)
			wantRead(t, x.s, "a", body)
			wantNumbers(t, x.s, 2, 28-(n+111)/112)
			x.again(t).want(t)
		}
	}
	x := newBoth(t, 60)
	zeros := strings.Repeat("\x00", 300) // what pads is told from what is contained
	x.write(t, "a", zeros)
	x.commit(t)
	wantRead(t, x.s, "a", zeros)
}

// TestLong: P10.1 and P0.2, contents of as many bytes as are possible, and of one more; a commit of them does not fit into a slot.
func TestLong(t *testing.T) {
	x := newBoth(t, 65536)
	body := some(1, most+1)
	wantErrno(t, "Write of too much", x.s.Write("a", []byte(body)), api.ErrLong)
	wantErrno(t, "Append of too much", x.s.Append("a", []byte(body)), api.ErrLong)
	wantNames(t, x.s)
	wantErrno(t, "Write", x.s.Write("a", []byte(body[1:])), api.OK)
	wantRead(t, x.s, "a", body[1:])
	wantErrno(t, "Write of too much", x.s.Write("a", []byte(body)), api.ErrLong)
	wantErrno(t, "Append of one byte", x.s.Append("a", []byte("x")), api.ErrLong)
	wantErrno(t, "Append of nothing", x.s.Append("a", nil), api.OK)
	wantRead(t, x.s, "a", body[1:])
	wantErrno(t, "Commit", x.s.Commit(), api.ErrFull)
	wantRead(t, x.s, "a", body[1:])
	wantNumbers(t, x.s, 0, 65504)
	x.s.Forget()
	x.want(t)
}

// TestNameLength: P10.1 and P0.2, which names are possible: their bytes are counted, and a bad one comes ahead of contents that are too long.
func TestNameLength(t *testing.T) {
	good := []string{"a", "\x00", " ", "\xff", strings.Repeat("x", 31), strings.Repeat("x", 32), strings.Repeat("\x80", 32), strings.Repeat("é", 16), "a/b\nc"}
	bad := []string{"", strings.Repeat("x", 33), strings.Repeat("\xff", 33), strings.Repeat("é", 17), strings.Repeat("x", 1000)}
	x := newBoth(t, 60)
	for _, name := range good {
		wantErrno(t, "Write", x.s.Write(name, []byte(name)), api.OK)
		wantRead(t, x.s, name, name)
		wantErrno(t, "Write of too much", x.s.Write(name, make([]byte, most+1)), api.ErrLong)
		wantErrno(t, "Append", x.s.Append(name, []byte("!")), api.OK)
		wantErrno(t, "Append of too much", x.s.Append(name, make([]byte, most)), api.ErrLong)
		x.m.write(name, name+"!")
	}
	for _, name := range bad {
		for _, n := range []int{0, 1, most, most + 1} {
			wantErrno(t, "Write", x.s.Write(name, make([]byte, n)), api.ErrName)
			wantErrno(t, "Append", x.s.Append(name, make([]byte, n)), api.ErrName)
		}
		wantErrno(t, "Remove", x.s.Remove(name), api.ErrName)
		wantNoRead(t, x.s, name, api.ErrName)
	}
	x.want(t)
	x.commit(t)
	x.again(t).want(t)
}

// TestAppend: P10.1, Append to a file that does not exist, is committed, is changed, or is removed.
func TestAppend(t *testing.T) {
	x := newBoth(t, 60)
	x.append(t, "a", "")
	wantRead(t, x.s, "a", "")
	x.append(t, "a", "one")
	x.append(t, "a", "")
	x.append(t, "a", " two")
	wantRead(t, x.s, "a", "one two")
	x.append(t, "b", some(1, 100))
	x.commit(t)
	x.append(t, "b", some(2, 100))
	wantRead(t, x.s, "b", some(1, 100)+some(2, 100))
	x.want(t)
	x.commit(t)
	wantNumbers(t, x.s, 2, 25)
	x.remove(t, "b")
	x.append(t, "b", "new")
	wantRead(t, x.s, "b", "new")
	x.remove(t, "b")
	x.append(t, "b", "")
	wantRead(t, x.s, "b", "")
	x.write(t, "a", "x")
	x.append(t, "a", "y")
	wantRead(t, x.s, "a", "xy")
	x.want(t)
	x.commit(t)
	wantNumbers(t, x.s, 3, 27)
	x.append(t, "a", "")
	x.commit(t) // of nothing, but it is a change
	wantNumbers(t, x.s, 4, 27)
}

// TestAppendLong: P10.1 and P0.3, a sum of as many bytes as are possible, and of one more: with a file that is changed, and with one that is committed.
func TestAppendLong(t *testing.T) {
	x := newBoth(t, 60)
	x.write(t, "a", some(1, 300))
	x.commit(t)
	for range 2 {
		wantErrno(t, "Append of too much", x.s.Append("a", make([]byte, most-299)), api.ErrLong)
		wantErrno(t, "Append of too much", x.s.Append("a", make([]byte, most+1)), api.ErrLong)
		wantRead(t, x.s, "a", some(1, 300))
		wantErrno(t, "Append", x.s.Append("a", make([]byte, most-300)), api.OK)
		wantRead(t, x.s, "a", some(1, 300)+strings.Repeat("\x00", most-300))
		wantErrno(t, "Append of one byte more", x.s.Append("a", []byte("x")), api.ErrLong)
		wantErrno(t, "Write", x.s.Write("a", []byte(some(1, 300))), api.OK)
	}
	wantErrno(t, "Remove", x.s.Remove("a"), api.OK)
	wantErrno(t, "Append to nothing", x.s.Append("a", make([]byte, most+1)), api.ErrLong)
	wantNoRead(t, x.s, "a", api.ErrName)
	wantErrno(t, "Append to nothing", x.s.Append("a", make([]byte, most)), api.OK)
	x.s.Forget()
	x.want(t)
}

// TestAppendCorrupt: P10.1, P10.3 and P0.2, a file that cannot be read is not appended to; contents that would be too long come first. To write it anew, or to remove it, is possible.
func TestAppendCorrupt(t *testing.T) {
	x := newBoth(t, 60)
	x.write(t, "a", some(1, 300))
	x.commit(t)
	x.spoil(t, 33, 20, 1)
	for range 2 {
		for _, n := range []int{0, 1, most - 300} {
			wantErrno(t, "Append", x.s.Append("a", make([]byte, n)), api.ErrCorrupt)
		}
		for _, n := range []int{most - 299, most, most + 1} {
			wantErrno(t, "Append of too much", x.s.Append("a", make([]byte, n)), api.ErrLong)
		}
		x.want(t)
		wantErrno(t, "Commit without changes", x.s.Commit(), api.OK)
		wantNumbers(t, x.s, 1, 25)
	}
	x.write(t, "a", "new")
	x.append(t, "a", "er")
	wantRead(t, x.s, "a", "newer")
	x.remove(t, "a")
	x.append(t, "a", "newest")
	wantRead(t, x.s, "a", "newest")
	x.forget()
	x.want(t)
	x.append(t, "a", "newest")
	x.remove(t, "a")
	x.commit(t)
	wantNumbers(t, x.s, 2, 28)
}

// TestRemove: P10.1 and P0.2, Remove of a file that does not exist, that is removed already, that was never committed.
func TestRemove(t *testing.T) {
	x := newBoth(t, 60)
	x.remove(t, "a")
	x.want(t)
	wantErrno(t, "Commit", x.s.Commit(), api.OK)
	wantNumbers(t, x.s, 0, 28)
	x.write(t, "a", "x")
	x.remove(t, "a")
	x.remove(t, "a")
	wantErrno(t, "Remove of what is removed", x.s.Remove("a"), api.ErrName)
	wantNoRead(t, x.s, "a", api.ErrName)
	x.commit(t) // of a file that was never there, but it is a change
	wantNumbers(t, x.s, 1, 28)
	x.write(t, "a", "x")
	x.write(t, "b", "y")
	x.commit(t)
	x.remove(t, "a")
	wantErrno(t, "Remove of what is removed", x.s.Remove("a"), api.ErrName)
	x.want(t)
	x.commit(t)
	wantErrno(t, "Remove of what is removed", x.s.Remove("a"), api.ErrName)
	wantErrno(t, "Remove of what was never there", x.s.Remove("c"), api.ErrName)
	wantNumbers(t, x.s, 3, 27)
	x.again(t).want(t)
}

// TestErrorsChangeNothing: P0.3, calls that return an error leave no change: a Commit behind them does nothing.
func TestErrorsChangeNothing(t *testing.T) {
	x := newBoth(t, 60)
	x.write(t, "a", some(1, 300))
	x.commit(t)
	x.spoil(t, 33, 20, 1)
	x.d.Fuse(0)
	wantErrno(t, "Write", x.s.Write("", nil), api.ErrName)
	wantErrno(t, "Write", x.s.Write("a", make([]byte, most+1)), api.ErrLong)
	wantErrno(t, "Append", x.s.Append("", nil), api.ErrName)
	wantErrno(t, "Append", x.s.Append("b", make([]byte, most+1)), api.ErrLong)
	wantErrno(t, "Append", x.s.Append("a", nil), api.ErrCorrupt)
	wantErrno(t, "Remove", x.s.Remove("b"), api.ErrName)
	wantNoRead(t, x.s, "a", api.ErrCorrupt)
	wantNoRead(t, x.s, "b", api.ErrName)
	wantErrno(t, "Commit", x.s.Commit(), api.OK)
	x.want(t)
}

// TestArgumentsStay: P0.4, arguments are neither written to nor kept, their spare capacity included.
func TestArgumentsStay(t *testing.T) {
	x := newBoth(t, 60)
	memory := []byte(some(1, 400))
	kept := string(memory)
	b := memory[100:250] // more behind it
	x.write(t, "a", "ab")
	wantErrno(t, "Append", x.s.Append("a", b), api.OK)
	wantErrno(t, "Write", x.s.Write("b", b), api.OK)
	wantErrno(t, "Append", x.s.Append("b", []byte("more")), api.OK)
	wantErrno(t, "Append", x.s.Append("c", b), api.OK)
	wantErrno(t, "Append", x.s.Append("c", []byte("more")), api.OK)
	wantErrno(t, "Write", x.s.Write("d", b), api.OK)
	x.m.write("a", "ab"+string(b))
	x.m.write("b", string(b)+"more")
	x.m.write("c", string(b)+"more")
	x.m.write("d", string(b))
	if string(memory) != kept {
		t.Fatal("an argument was written to")
	}
	for i := range memory {
		memory[i]++
	}
	x.want(t)
	now := bytes.Clone(memory)
	x.commit(t)
	if !bytes.Equal(memory, now) {
		t.Fatal("an argument was written to by a Commit")
	}
}

// TestResultsOwn: P0.4, results are memory of their own, whether what they tell is pending or committed.
func TestResultsOwn(t *testing.T) {
	x := newBoth(t, 60)
	x.write(t, "a", some(1, 300))
	x.append(t, "b", "one")
	x.append(t, "b", "two")
	for range 2 {
		for _, name := range []string{"a", "b"} {
			one, _ := x.s.Read(name)
			other, _ := x.s.Read(name)
			kept := string(other)
			for i := range one[:cap(one)] {
				one[:cap(one)][i]++
			}
			if string(other) != kept {
				t.Fatalf("two results of Read(%q) share memory", name)
			}
			x.append(t, name, "!")
			for i := range other[:cap(other)] {
				other[:cap(other)][i]++
			}
			x.want(t)
		}
		one, other := x.s.Names(), x.s.Names()
		for i := range one {
			one[i] = "x"
		}
		_ = append(one, "y")
		if other[0] != "a" || other[1] != "b" {
			t.Fatal("two results of Names share memory")
		}
		x.commit(t)
	}
}

// TestEarlierReads: P0.4, what was read stays as it was, whatever the store does.
func TestEarlierReads(t *testing.T) {
	s := opened(t, newDisk(t, 60))
	wantErrno(t, "Append", s.Append("a", []byte("one")), api.OK)
	var reads [][]byte
	want := []string{"one", "one2", "one23", "one234", "one2345", "one23456"}
	for i := range want {
		b, err := s.Read("a")
		wantErrno(t, "Read", err, api.OK)
		reads = append(reads, b)
		wantErrno(t, "Append", s.Append("a", []byte{byte('2' + i)}), api.OK)
		if i == 3 {
			wantErrno(t, "Commit", s.Commit(), api.OK)
		}
	}
	wantErrno(t, "Write", s.Write("a", []byte("xxxxxxxxxx")), api.OK)
	s.Forget()
	for i, b := range reads {
		if string(b) != want[i] {
			t.Errorf("what was read as %q is now %q", want[i], b)
		}
	}
}
