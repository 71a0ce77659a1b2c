package gcm_test

import (
	"bytes"
	standard "crypto/aes"
	"crypto/cipher"
	"encoding/hex"
	"slices"
	"sync"
	"testing"

	"crossway/api"
	"crossway/gcm"
)

// The examples of the specification of GCM with a key of 128 bits and a nonce of 96 bits (test cases 1 to 4), and one of RFC 9001: the Retry of version 1, whose text is empty.
var vectors = []struct{ key, nonce, text, note, want string }{
	{"00000000000000000000000000000000", "000000000000000000000000", "", "", "58e2fccefa7e3061367f1d57a4e7455a"},
	{"00000000000000000000000000000000", "000000000000000000000000", "00000000000000000000000000000000", "", "0388dace60b6a392f328c2b971b2fe78ab6e47d42cec13bdf53a67b21257bddf"},
	{"feffe9928665731c6d6a8f9467308308", "cafebabefacedbaddecaf888", "d9313225f88406e5a55909c5aff5269a86a7a9531534f7da2e4c303d8a318a721c3c0c95956809532fcf0e2449a6b525b16aedf5aa0de657ba637b391aafd255", "", "42831ec2217774244b7221b784d0d49ce3aa212f2c02a4e035c17e2329aca12e21d514b25466931c7d8f6a5aac84aa051ba30b396a0aac973d58e091473f59854d5c2af327cd64a62cf35abd2ba6fab4"},
	{"feffe9928665731c6d6a8f9467308308", "cafebabefacedbaddecaf888", "d9313225f88406e5a55909c5aff5269a86a7a9531534f7da2e4c303d8a318a721c3c0c95956809532fcf0e2449a6b525b16aedf5aa0de657ba637b39", "feedfacedeadbeeffeedfacedeadbeefabaddad2", "42831ec2217774244b7221b784d0d49ce3aa212f2c02a4e035c17e2329aca12e21d514b25466931c7d8f6a5aac84aa051ba30b396a0aac973d58e0915bc94fbc3221a5db94fae95ae7121a47"},
	{"be0c690b9f66575a1d766b54e368c84e", "461599d35d632bf2239825bb", "", "088394c8f03e515708ff000000010008f067a5502a4262b5746f6b656e", "04a265ba2eff4d829058fb3f0f2496ba"},
}

func raw(t *testing.T, s string) []byte {
	t.Helper()
	b, err := hex.DecodeString(s)
	if err != nil {
		t.Fatal(s, err)
	}
	return b
}

func box(t *testing.T, key []byte) *gcm.Box {
	t.Helper()
	b, e := gcm.New(key)
	if b == nil || e != api.OK {
		t.Fatal(key, e)
	}
	return b
}

// mixed are n bytes without a pattern; others for another seed.
func mixed(n int, seed uint64) []byte {
	b := make([]byte, n)
	for i := range b {
		seed = seed*6364136223846793005 + 1442695040888963407
		b[i] = byte(seed >> 40)
	}
	return b
}

// other is Go's own box with this key.
func other(t *testing.T, key []byte) cipher.AEAD {
	t.Helper()
	c, err := standard.NewCipher(key)
	if err != nil {
		t.Fatal(err)
	}
	a, err := cipher.NewGCM(c)
	if err != nil {
		t.Fatal(err)
	}
	return a
}

func isNothing(b []byte, e, want api.Errno) bool { return len(b) == 0 && e == want }

func isThis(b []byte, e api.Errno, want []byte) bool { return e == api.OK && bytes.Equal(b, want) }

// P7.1, P7.2
func TestVectors(t *testing.T) {
	for i, v := range vectors {
		b := box(t, raw(t, v.key))
		nonce, text, note, want := raw(t, v.nonce), raw(t, v.text), raw(t, v.note), raw(t, v.want)
		if s, e := b.Seal(nonce, text, note); !isThis(s, e, want) {
			t.Errorf("%d: %x %d", i, s, e)
		}
		if u, e := b.Tag(nonce, want[:len(text)], note); !isThis(u, e, want[len(text):]) {
			t.Errorf("%d: %x %d", i, u, e)
		}
		if o, e := b.Open(nonce, want, note); !isThis(o, e, text) {
			t.Errorf("%d: %x %d", i, o, e)
		}
		if n := b.Failed(); n != 0 {
			t.Error(i, n)
		}
	}
}

// P7.1
func TestNew(t *testing.T) {
	for n := range 70 {
		for _, key := range [][]byte{make([]byte, n), slices.Repeat([]byte{255}, n), make([]byte, n, n+16)} {
			b, e := gcm.New(key)
			if n == 16 && (b == nil || e != api.OK) || n != 16 && (b != nil || e != api.ErrRange) {
				t.Error(n, b, e)
			}
		}
	}
	if b, e := gcm.New(nil); b != nil || e != api.ErrRange {
		t.Error(b, e)
	}
	if b, e := gcm.New(make([]byte, 65536)); b != nil || e != api.ErrRange {
		t.Error(b, e)
	}
}

// P7.1: each length of the text and of the note up to some blocks, against Go's own box.
func TestEachLength(t *testing.T) {
	for n := range 50 {
		key := mixed(16, uint64(n))
		b, o := box(t, key), other(t, key)
		for m := range 50 {
			nonce, text, note := mixed(12, uint64(100*n+m)), mixed(n, uint64(m)+1), mixed(m, uint64(n)+2)
			want := o.Seal(nil, nonce, text, note)
			if s, e := b.Seal(nonce, text, note); !isThis(s, e, want) {
				t.Fatalf("%d %d: %x %d", n, m, s, e)
			}
			if u, e := b.Tag(nonce, want[:n], note); !isThis(u, e, want[n:]) {
				t.Fatalf("%d %d: %x %d", n, m, u, e)
			}
			if p, e := b.Open(nonce, want, note); !isThis(p, e, text) {
				t.Fatalf("%d %d: %x %d", n, m, p, e)
			}
		}
	}
}

// P7.1, P7.2: the greatest lengths that are allowed, and those before them.
func TestLongest(t *testing.T) {
	key, nonce := mixed(16, 1), mixed(12, 2)
	b, o := box(t, key), other(t, key)
	for _, c := range [][2]int{{65535, 0}, {0, 65535}, {65535, 65535}, {65534, 65520}, {65520, 65534}, {4097, 257}} {
		text, note := mixed(c[0], 3), mixed(c[1], 4)
		want := o.Seal(nil, nonce, text, note)
		s, e := b.Seal(nonce, text, note)
		if !isThis(s, e, want) {
			t.Fatal(c, len(s), e)
		}
		if u, e := b.Tag(nonce, s[:c[0]], note); !isThis(u, e, want[c[0]:]) {
			t.Error(c, u, e)
		}
		if p, e := b.Open(nonce, s, note); !isThis(p, e, text) {
			t.Error(c, len(p), e)
		}
	}
	if n := b.Failed(); n != 0 {
		t.Error(n)
	}
}

// P7.1, P7.2: a nonce has twelve bytes, for each function.
func TestNonceOfWrongLength(t *testing.T) {
	b := box(t, mixed(16, 1))
	lengths := []int{65535, 65536}
	for n := range 40 {
		lengths = append(lengths, n)
	}
	for _, n := range lengths {
		if n == 12 {
			continue
		}
		for _, nonce := range [][]byte{make([]byte, n), mixed(n, 5), make([]byte, n, n+12)} { // what lies behind the length does not count
			for _, m := range []int{0, 3, 15, 16, 17, 65536, 65552} {
				part, note := mixed(m, 6), mixed(m%20, 7)
				if s, e := b.Seal(nonce, part, note); !isNothing(s, e, api.ErrRange) {
					t.Error(n, m, s, e)
				}
				if u, e := b.Tag(nonce, part, note); !isNothing(u, e, api.ErrRange) {
					t.Error(n, m, u, e)
				}
				if o, e := b.Open(nonce, part, note); !isNothing(o, e, api.ErrRange) {
					t.Error(n, m, o, e)
				}
			}
		}
	}
	if s, e := b.Seal(nil, nil, nil); !isNothing(s, e, api.ErrRange) {
		t.Error(s, e)
	}
	if u, e := b.Tag(nil, nil, nil); !isNothing(u, e, api.ErrRange) {
		t.Error(u, e)
	}
	if o, e := b.Open(nil, nil, nil); !isNothing(o, e, api.ErrRange) {
		t.Error(o, e)
	}
	if n := b.Failed(); n != 0 {
		t.Error(n)
	}
}

// P7.1
func TestSealOfTooLong(t *testing.T) {
	b, nonce := box(t, mixed(16, 1)), mixed(12, 2)
	for _, c := range [][2]int{{65536, 0}, {0, 65536}, {65536, 65535}, {65535, 65536}, {65536, 65536}, {65551, 3}, {65552, 3}, {3, 65551}, {1 << 20, 1}, {1, 1 << 20}} {
		part, note := make([]byte, c[0]), make([]byte, c[1])
		if s, e := b.Seal(nonce, part, note); !isNothing(s, e, api.ErrRange) {
			t.Error(c, len(s), e)
		}
		if u, e := b.Tag(nonce, part, note); !isNothing(u, e, api.ErrRange) {
			t.Error(c, u, e)
		}
	}
	roomy := make([]byte, 65535, 70000) // what lies behind the length does not count
	if s, e := b.Seal(nonce, roomy, roomy); len(s) != 65551 || e != api.OK {
		t.Error(len(s), e)
	}
	if u, e := b.Tag(nonce, roomy, roomy); len(u) != 16 || e != api.OK {
		t.Error(u, e)
	}
}

// P7.2: ErrRange goes before ErrEnd, and ErrEnd before ErrTag; just ErrTag is counted.
func TestOpenOfWrongLength(t *testing.T) {
	b, nonce := box(t, mixed(16, 1)), mixed(12, 2)
	for _, c := range []struct {
		sealed, note int
		want         api.Errno
	}{
		{0, 65536, api.ErrRange}, {15, 65536, api.ErrRange}, {16, 65536, api.ErrRange}, {65551, 65536, api.ErrRange}, {16, 1 << 20, api.ErrRange},
		{65552, 0, api.ErrRange}, {65553, 65535, api.ErrRange}, {65552, 65536, api.ErrRange}, {1 << 20, 0, api.ErrRange},
		{0, 0, api.ErrEnd}, {1, 0, api.ErrEnd}, {8, 20, api.ErrEnd}, {14, 65535, api.ErrEnd}, {15, 0, api.ErrEnd}, {15, 65535, api.ErrEnd},
	} {
		if o, e := b.Open(nonce, make([]byte, c.sealed, c.sealed+16), make([]byte, c.note)); !isNothing(o, e, c.want) {
			t.Error(c, len(o), e)
		}
	}
	if n := b.Failed(); n != 0 {
		t.Error(n)
	}
	for i, c := range [][2]int{{16, 0}, {17, 0}, {16, 65535}, {65535, 0}, {65536, 0}, {65551, 0}, {65551, 65535}} {
		if o, e := b.Open(nonce, make([]byte, c[0]), make([]byte, c[1])); !isNothing(o, e, api.ErrTag) || b.Failed() != i+1 {
			t.Error(c, len(o), e, b.Failed())
		}
	}
	if o, e := b.Open(nonce, nil, nil); !isNothing(o, e, api.ErrEnd) {
		t.Error(o, e)
	}
}

// P7.2: whatever bit is changed, of the sealed text, the nonce or the note, the tag is wrong.
func TestEachBit(t *testing.T) {
	b := box(t, mixed(16, 1))
	nonce, text, note := mixed(12, 2), mixed(37, 3), mixed(21, 4)
	sealed, _ := b.Seal(nonce, text, note)
	failed := 0
	for _, part := range [][]byte{sealed, nonce, note} {
		for i := range part {
			for bit := range 8 {
				part[i] ^= 1 << bit
				failed++
				if o, e := b.Open(nonce, sealed, note); !isNothing(o, e, api.ErrTag) || b.Failed() != failed {
					t.Error(len(part), i, bit, o, e, b.Failed())
				}
				part[i] ^= 1 << bit
			}
		}
	}
	if o, e := b.Open(nonce, sealed, note); !isThis(o, e, text) || b.Failed() != failed {
		t.Error(o, e, b.Failed())
	}
}

// P7.2: bytes cut off or added, and bytes that went from one part to another.
func TestOtherLengths(t *testing.T) {
	b := box(t, mixed(16, 1))
	nonce, text, note := mixed(12, 2), mixed(40, 3), mixed(40, 4)
	sealed, _ := b.Seal(nonce, text, note)
	failed := 0
	try := func(name string, n int, sealed, note []byte) {
		failed++
		if o, e := b.Open(nonce, sealed, note); !isNothing(o, e, api.ErrTag) || b.Failed() != failed {
			t.Error(name, n, o, e, b.Failed())
		}
	}
	for n := range 40 {
		try("short text", n, sealed[n+1:], note)
		try("short seal", n, sealed[:len(sealed)-n-1], note)
		try("short note", n, sealed, note[:n])
		try("long text", n, slices.Concat(make([]byte, n+1), sealed), note)
		try("long seal", n, slices.Concat(sealed, make([]byte, n+1)), note)
		try("long note", n, sealed, slices.Concat(note, make([]byte, n+1)))
		try("from the note", n, slices.Concat(note[n:], sealed), note[:n])
		try("to the note", n, sealed[n+1:], slices.Concat(note, sealed[:n+1]))
	}
	try("zeros before the lengths", 0, slices.Concat(sealed[:40], make([]byte, 8), sealed[40:]), note)
}

// P7.2: the sealed text of one key is none of another.
func TestOtherKey(t *testing.T) {
	nonce, text, note := mixed(12, 2), mixed(37, 3), mixed(21, 4)
	key := mixed(16, 1)
	sealed, _ := box(t, key).Seal(nonce, text, note)
	for i := range key {
		for bit := range 8 {
			key[i] ^= 1 << bit
			b := box(t, key)
			if o, e := b.Open(nonce, sealed, note); !isNothing(o, e, api.ErrTag) || b.Failed() != 1 {
				t.Error(i, bit, o, e, b.Failed())
			}
			key[i] ^= 1 << bit
		}
	}
}

// P7.2: just what Open returned ErrTag for counts, each box for itself.
func TestFailed(t *testing.T) {
	key, nonce, text, note := mixed(16, 1), mixed(12, 2), mixed(20, 3), mixed(5, 4)
	b, same := box(t, key), box(t, key)
	sealed, _ := b.Seal(nonce, text, note)
	for n := range 20 {
		b.Open(nonce, sealed, note[:4])
		b.Open(nonce, sealed, note)
		b.Open(nonce[:11], sealed, note)
		b.Open(nonce, sealed[:15], note)
		b.Open(nonce, make([]byte, 65552), note)
		b.Open(nonce, sealed, make([]byte, 65536))
		b.Seal(nonce, text, note)
		b.Seal(nonce[:11], text, note)
		b.Tag(nonce, text, note)
		b.Tag(nonce[:11], text, note)
		if b.Failed() != n+1 || b.Failed() != n+1 || same.Failed() != 0 {
			t.Error(n, b.Failed(), same.Failed())
		}
	}
}

// P7.3
func TestOpenInvertsSeal(t *testing.T) {
	b := box(t, mixed(16, 1))
	for n := range 120 {
		nonce, text, note := mixed(12, uint64(n)), mixed(n*n, uint64(n)+1), mixed(7*n, uint64(n)+2)
		s, e := b.Seal(nonce, text, note)
		if len(s) != len(text)+16 || e != api.OK {
			t.Fatal(n, len(s), e)
		}
		if o, e := b.Open(nonce, s, note); !isThis(o, e, text) {
			t.Fatal(n, len(o), e)
		}
		if again, e := b.Seal(nonce, text, note); !isThis(again, e, s) {
			t.Fatal(n, len(again), e)
		}
	}
	for _, empty := range [][]byte{nil, {}, make([]byte, 0, 16)} {
		s, _ := b.Seal(mixed(12, 9), empty, empty)
		if o, e := b.Open(mixed(12, 9), s, nil); !isThis(o, e, nil) {
			t.Error(o, e)
		}
	}
}

// P7.3: arguments stay as they are, and what lies behind them too.
func TestArgumentsStay(t *testing.T) {
	whole := mixed(300, 1)
	key, nonce, text, note := whole[3:19], whole[25:37], whole[50:87], whole[100:121]
	sealed, _ := box(t, key).Seal(nonce, text, note)
	copy(whole[150:], sealed)
	sealed = whole[150 : 150+len(sealed)]
	want := slices.Clone(whole)
	b := box(t, key)
	gcm.New(whole[3:20])
	b.Seal(nonce, text, note)
	b.Seal(nonce, text[:0], note[:0])
	b.Seal(nonce, nonce, nonce)
	b.Seal(whole[25:36], text, note)
	b.Tag(nonce, text, note)
	b.Tag(nonce, nonce, nonce)
	b.Open(nonce, sealed, note)
	b.Open(nonce, sealed, note[:5])
	b.Open(nonce, sealed[:15], note)
	b.Open(nonce, sealed[:16], nonce)
	if !bytes.Equal(whole, want) {
		t.Errorf("%x", whole)
	}
}

// P7.3: a box keeps no argument: the key may be changed afterwards, and the other arguments may too.
func TestArgumentsMayChange(t *testing.T) {
	v := vectors[3]
	key, nonce, text, note, want := raw(t, v.key), raw(t, v.nonce), raw(t, v.text), raw(t, v.note), raw(t, v.want)
	b := box(t, key)
	clear(key)
	sealed, _ := b.Seal(nonce, text, note)
	tag, _ := b.Tag(nonce, want[:len(text)], note)
	opened, _ := b.Open(nonce, sealed, note)
	given := slices.Clone(sealed)
	b.Open(nonce, given, note)
	for _, part := range [][]byte{nonce, text, note, given} {
		clear(part)
	}
	if hex.EncodeToString(sealed) != v.want || hex.EncodeToString(opened) != v.text || !bytes.Equal(tag, want[len(text):]) {
		t.Errorf("%x %x %x", sealed, opened, tag)
	}
	if s, e := b.Seal(raw(t, v.nonce), raw(t, v.text), raw(t, v.note)); !isThis(s, e, want) {
		t.Errorf("%x %d", s, e)
	}
}

// P7.3: results are new memory: to overwrite them, as far as it goes, changes neither an argument nor another result.
func TestResultsAreNew(t *testing.T) {
	b := box(t, mixed(16, 1))
	nonce, text, note := mixed(12, 2), mixed(37, 3), mixed(21, 4)
	sealed, _ := b.Seal(nonce, text, note)
	empty, _ := b.Seal(nonce, nil, note)
	kept := slices.Concat(nonce, text, note, sealed, empty)
	for name, call := range map[string]func() ([]byte, api.Errno){
		"seal":       func() ([]byte, api.Errno) { return b.Seal(nonce, text, note) },
		"seal none":  func() ([]byte, api.Errno) { return b.Seal(nonce, text[:0], note) },
		"seal nonce": func() ([]byte, api.Errno) { return b.Seal(nonce, nonce, nonce) },
		"open":       func() ([]byte, api.Errno) { return b.Open(nonce, sealed, note) },
		"open none":  func() ([]byte, api.Errno) { return b.Open(nonce, empty, note) },
		"tag":        func() ([]byte, api.Errno) { return b.Tag(nonce, text, note) },
		"tag none":   func() ([]byte, api.Errno) { return b.Tag(nonce, text[:0], note[:0]) },
	} {
		first, _ := call()
		second, _ := call()
		want := slices.Clone(first)
		for i := range first[:cap(first)] {
			first[:cap(first)][i] ^= 0xa5
		}
		third, e := call()
		if !bytes.Equal(second, want) || !isThis(third, e, want) {
			t.Errorf("%s: %x, then %x and %x", name, want, second, third)
		}
		if !bytes.Equal(slices.Concat(nonce, text, note, sealed, empty), kept) {
			t.Errorf("%s: %x %x %x %x %x", name, nonce, text, note, sealed, empty)
		}
	}
}

// P7.2, P7.3: calls of many goroutines on one box do no harm to each other, and none of their failures is lost.
func TestAtOnce(t *testing.T) {
	v := vectors[3]
	nonce, text, note, want := raw(t, v.nonce), raw(t, v.text), raw(t, v.note), raw(t, v.want)
	b := box(t, raw(t, v.key))
	var all sync.WaitGroup
	for range 8 {
		all.Go(func() {
			for range 20 {
				if s, e := b.Seal(nonce, text, note); !isThis(s, e, want) {
					t.Errorf("%x %d", s, e)
				}
				if o, e := b.Open(nonce, want, note); !isThis(o, e, text) {
					t.Errorf("%x %d", o, e)
				}
				if o, e := b.Open(nonce, want, nil); !isNothing(o, e, api.ErrTag) {
					t.Errorf("%x %d", o, e)
				}
			}
		})
	}
	all.Wait()
	if n := b.Failed(); n != 160 {
		t.Error(n)
	}
}
