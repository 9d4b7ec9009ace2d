package merge

import (
	"bytes"
	"palmer/api"
	"testing"
)

// knownKeys are edges with their keys, written by hand.
var knownKeys = []struct {
	e   api.Edge
	key string
}{
	{api.Edge{}, "\x00\x00\x00\x00\x00\x00\x00\x00\x00\x00\x00\x00"},
	{api.Edge{From: last, To: last, Weight: last}, "\xff\xff\xff\xff\xff\xff\xff\xff\xff\xff\xff\xff"},
	{api.Edge{From: 0x01020304, To: 0x05060708, Weight: 0x090a0b0c}, "\x01\x02\x03\x04\x05\x06\x07\x08\x09\x0a\x0b\x0c"},
	{api.Edge{From: 0xfffefdfc, To: 0xfbfaf9f8, Weight: 0xf7f6f5f4}, "\xff\xfe\xfd\xfc\xfb\xfa\xf9\xf8\xf7\xf6\xf5\xf4"},
	{api.Edge{From: 1}, "\x00\x00\x00\x01\x00\x00\x00\x00\x00\x00\x00\x00"},
	{api.Edge{To: 1}, "\x00\x00\x00\x00\x00\x00\x00\x01\x00\x00\x00\x00"},
	{api.Edge{Weight: 1}, "\x00\x00\x00\x00\x00\x00\x00\x00\x00\x00\x00\x01"},
	{api.Edge{From: last}, "\xff\xff\xff\xff\x00\x00\x00\x00\x00\x00\x00\x00"},
	{api.Edge{To: last}, "\x00\x00\x00\x00\xff\xff\xff\xff\x00\x00\x00\x00"},
	{api.Edge{Weight: last}, "\x00\x00\x00\x00\x00\x00\x00\x00\xff\xff\xff\xff"},
	{api.Edge{From: 1, To: 2, Weight: 3}, "\x00\x00\x00\x01\x00\x00\x00\x02\x00\x00\x00\x03"},
	{api.Edge{From: 256, To: 65536, Weight: 1 << 24}, "\x00\x00\x01\x00\x00\x01\x00\x00\x01\x00\x00\x00"},
	{api.Edge{From: 1 << 31, To: 128, Weight: greatest}, "\x80\x00\x00\x00\x00\x00\x00\x80\x7f\xff\xff\xff"},
	{api.Edge{From: 1, To: 2, Weight: greatest + 1}, "\x00\x00\x00\x01\x00\x00\x00\x02\x80\x00\x00\x00"},
}

// wantOf: P14.1, what the edge of a key is.
func wantOf(t *testing.T, key []byte, want api.Edge, wantErr api.Errno) {
	t.Helper()
	if e, err := Of(key); e != want || err != wantErr {
		t.Errorf("Of(%q) is %v and %d, not %v and %d", key, e, err, want, wantErr)
	}
}

// edgesOf are edges with each of some numbers at each place.
func edgesOf(numbers []uint32) []api.Edge {
	var l []api.Edge
	for _, from := range numbers {
		for _, to := range numbers {
			for _, weight := range numbers {
				l = append(l, api.Edge{From: from, To: to, Weight: weight})
			}
		}
	}
	return l
}

// TestKeyKnown: P14.1, the keys of edges, and the edges of keys: also those whose Weight is 0, or exceeds MaxWeight.
func TestKeyKnown(t *testing.T) {
	for _, k := range knownKeys {
		if got := Key(k.e); string(got) != k.key {
			t.Errorf("Key(%v) is %q, not %q", k.e, got, k.key)
		}
		wantOf(t, []byte(k.key), k.e, api.OK)
	}
}

// TestKeyBits: P14.1, each bit of each number has its place.
func TestKeyBits(t *testing.T) {
	for bit := range 96 {
		want := make([]byte, 12)
		want[bit/8] = 1 << (7 - bit%8)
		var n [3]uint32
		n[bit/32] = 1 << (31 - bit%32)
		e := api.Edge{From: n[0], To: n[1], Weight: n[2]}
		if got := Key(e); !bytes.Equal(got, want) {
			t.Errorf("Key(%v) is %q, not %q", e, got, want)
		}
		wantOf(t, want, e, api.OK)
	}
}

// TestKeyOf: P14.1, the edge of an edge's key is the edge, and the key of a key's edge is the key.
func TestKeyOf(t *testing.T) {
	for _, e := range edgesOf(numberEdges) {
		key := Key(e)
		if string(key) != slowKey(e.From, e.To, e.Weight) {
			t.Fatalf("Key(%v) is %q", e, key)
		}
		wantOf(t, key, e, api.OK)
	}
	d := &dice{}
	for range 5000 {
		key := make([]byte, 12)
		for i := range key {
			key[i] = byte(d.wide())
		}
		e, err := Of(key)
		if got := Key(e); !bytes.Equal(got, key) || err != api.OK {
			t.Fatalf("%q is the key of %v with error %d, whose key is %q", key, e, err, got)
		}
	}
}

// TestOfLength: P14.1 and P0.2, bytes are a key only if they are twelve, whatever they are and whatever is around them.
func TestOfLength(t *testing.T) {
	whole := bytes.Repeat([]byte("\x00\x01\xff\x7f\x80"), 300)
	for n := range 40 {
		for from := range 6 {
			key := whole[from : from+n]
			if n == 12 {
				e, err := Of(key)
				if slowKey(e.From, e.To, e.Weight) != string(key) || err != api.OK {
					t.Errorf("Of(%q) is %v and %d", key, e, err)
				}
				continue
			}
			wantOf(t, key, api.Edge{}, api.ErrForm)
			wantOf(t, make([]byte, n), api.Edge{}, api.ErrForm)
			wantOf(t, bytes.Repeat([]byte{255}, n), api.Edge{}, api.ErrForm)
			wantOf(t, append(make([]byte, 0, 12), key...), api.Edge{}, api.ErrForm)
		}
	}
	wantOf(t, nil, api.Edge{}, api.ErrForm)
	wantOf(t, []byte{}, api.Edge{}, api.ErrForm)
	for _, n := range []int{48, 255, 256, 256 + 12, 1 << 10, 1<<16 + 12, 1 << 20} {
		wantOf(t, make([]byte, n), api.Edge{}, api.ErrForm)
	}
}

// TestKeyOrder: P14.2, keys are in the order of the edges: by From, then To, then Weight.
func TestKeyOrder(t *testing.T) {
	l := edgesOf([]uint32{0, 1, 255, 256, 1 << 24, greatest, greatest + 1, last})
	for _, e := range l {
		for _, other := range l {
			if got, want := bytes.Compare(Key(e), Key(other)), compareEdges(e, other); got != want {
				t.Fatalf("the keys of %v and %v compare as %d, not %d", e, other, got, want)
			}
		}
	}
}

// TestKeyOwn: P0.4, a key is new memory, spare capacity included: writing into it changes no other key, and no later one.
func TestKeyOwn(t *testing.T) {
	for _, k := range knownKeys {
		one, other := Key(k.e), Key(k.e)
		whole := one[:cap(one)]
		for i := range whole {
			whole[i] ^= 0x55
		}
		_ = append(one[:0], "something of more than twelve bytes"...)
		if string(other) != k.key || string(Key(k.e)) != k.key {
			t.Errorf("the key %q is now %q, and then %q", k.key, other, Key(k.e))
		}
	}
}

// TestOfOwn: P0.4, a key is not modified, and neither is what is around it.
func TestOfOwn(t *testing.T) {
	whole := []byte("ahead of it, then twelve bytes, and behind it")
	before := bytes.Clone(whole)
	for from := range len(whole) {
		for to := from; to <= len(whole); to++ {
			Of(whole[from:to])
		}
	}
	if !bytes.Equal(whole, before) {
		t.Errorf("%q has become %q", before, whole)
	}
	e, _ := Of(whole[:12])
	kept := e
	clear(whole)
	if e != kept {
		t.Errorf("an edge follows its key: %v", e)
	}
}
