package count_test

import (
	"bytes"
	standard "crypto/aes"
	"crypto/cipher"
	"encoding/binary"
	"encoding/hex"
	"math"
	"slices"
	"sync"
	"testing"

	"crossway/api"
	"crossway/count"
)

// The key, block and text of SP 800-38A's examples of counter mode, and what the text is turned to.
const (
	sampleKey    = "2b7e151628aed2a6abf7158809cf4f3c"
	sampleFrom   = "f0f1f2f3f4f5f6f7f8f9fafbfcfdfeff"
	sampleText   = "6bc1bee22e409f96e93d7e117393172aae2d8a571e03ac9c9eb76fac45af8e5130c81c46a35ce411e5fbc1191a0a52eff69f2445df4f9b17ad2b417be66c3710"
	sampleTurned = "874d6191b620e3261bef6864990db6ce9806f66b7970fdff8617187bb9fffdff5ae4df3edbd5d35e5b4f09020db03eab1e031dda2fbe03d1792170a0f3009cee"
)

func raw(t *testing.T, s string) []byte {
	t.Helper()
	b, err := hex.DecodeString(s)
	if err != nil {
		t.Fatal(s, err)
	}
	return b
}

// mixed are n bytes without a pattern; others for another seed.
func mixed(n int, seed uint64) []byte {
	b := make([]byte, n)
	for i := range b {
		seed = seed*6364136223846793005 + 1442695040888963407
		b[i] = byte(seed >> 40)
	}
	return b
}

// froms are blocks whose last four bytes are near each place at which they carry, and near their end.
func froms() [][]byte {
	var list [][]byte
	for i, n := range []uint32{0, 1, 0xfe, 0xff, 0xfffe, 0xffff, 0xffffff, 0x7fffffff, 0x80000000, 0xffffff00, 0xfffffffd, 0xfffffffe, 0xffffffff} {
		for _, first := range [][]byte{make([]byte, 12), slices.Repeat([]byte{255}, 12), mixed(12, uint64(i))} {
			list = append(list, binary.BigEndian.AppendUint32(first, n))
		}
	}
	return list
}

// stepped is the block after n steps, by another library than the program's.
func stepped(block []byte, n uint64) []byte {
	b := slices.Clone(block)
	binary.BigEndian.PutUint32(b[12:], uint32((uint64(binary.BigEndian.Uint32(b[12:]))+n%(1<<32))%(1<<32)))
	return b
}

// streamed are n bytes of a key stream, from Go's own cipher, block by block.
func streamed(t *testing.T, key, from []byte, n int) []byte {
	t.Helper()
	c, err := standard.NewCipher(key)
	if err != nil {
		t.Fatal(err)
	}
	var stream []byte
	for k := 0; len(stream) < n; k++ {
		b := stepped(from, uint64(k))
		c.Encrypt(b, b)
		stream = append(stream, b...)
	}
	return stream[:n]
}

func added(a, b []byte) []byte {
	s := slices.Clone(a)
	for i := range s {
		s[i] ^= b[i]
	}
	return s
}

// lengths are those that are allowed: around the first few blocks' ends, and great ones.
func lengths() []int {
	list := []int{255, 256, 257, 4095, 4096, 4097, 65519, 65520, 65521, 65534, 65535}
	for n := range 67 {
		list = append(list, n)
	}
	return list
}

// wrong are slices that are no block and no key.
func wrong() [][]byte {
	list := [][]byte{nil}
	for _, n := range append(lengths(), 65536, 65552) {
		if n != 16 {
			list = append(list, make([]byte, n), slices.Repeat([]byte{255}, n), make([]byte, n, n+16)) // what lies behind the length does not count
		}
	}
	return list
}

// P6.1: the number is the last four bytes; it wraps, and the other twelve stay.
func TestNext(t *testing.T) {
	for _, c := range [][2]string{
		{"00000000000000000000000000000000", "00000000000000000000000000000001"},
		{"000102030405060708090a0b0c0d0e0f", "000102030405060708090a0b0c0d0e10"},
		{"000000000000000000000000000000ff", "00000000000000000000000000000100"},
		{"0000000000000000000000000000ffff", "00000000000000000000000000010000"},
		{"00000000000000000000000000ffffff", "00000000000000000000000001000000"},
		{"0000000000000000000000007fffffff", "00000000000000000000000080000000"},
		{"000000000000000000000000fffffffe", "000000000000000000000000ffffffff"},
		{"000000000000000000000000ffffffff", "00000000000000000000000000000000"},
		{"0102030405060708090a0b0cffffffff", "0102030405060708090a0b0c00000000"},
		{"ffffffffffffffffffffffffffffffff", "ffffffffffffffffffffffff00000000"},
		{"ffffffffffffffffffffffff00000000", "ffffffffffffffffffffffff00000001"},
	} {
		if b, e := count.Next(raw(t, c[0])); hex.EncodeToString(b) != c[1] || e != api.OK {
			t.Errorf("%s: %x %d", c[0], b, e)
		}
	}
	for _, block := range froms() {
		if b, e := count.Next(block); !bytes.Equal(b, stepped(block, 1)) || e != api.OK {
			t.Errorf("%x: %x %d", block, b, e)
		}
	}
}

// P6.1: n has 64 bits; a turn of 2^32 steps leads back to the block.
func TestAfter(t *testing.T) {
	ns := []uint64{0, 1, 2, 3, 255, 256, 65535, 65536, 1<<31 - 1, 1 << 31, 1<<32 - 2, 1<<32 - 1, 1 << 32, 1<<32 + 1, 1 << 33, 1<<62 + 5, 1<<63 - 1, 1 << 63, math.MaxUint64 - 1, math.MaxUint64}
	for _, block := range froms() {
		for _, n := range ns {
			if b, e := count.After(block, n); !bytes.Equal(b, stepped(block, n)) || e != api.OK {
				t.Errorf("%x %d: %x %d", block, n, b, e)
			}
		}
		for _, n := range []uint64{0, 1 << 32, 1 << 40, 1<<64 - 1<<32} {
			if b, _ := count.After(block, n); !bytes.Equal(b, block) {
				t.Errorf("%x %d: %x", block, n, b)
			}
		}
	}
}

// P6.1: After is as many steps of Next, and steps may be divided among calls.
func TestAfterIsNexts(t *testing.T) {
	for _, from := range froms() {
		block := from
		for n := range uint64(600) {
			b, e := count.After(from, n)
			if !bytes.Equal(b, block) || e != api.OK {
				t.Fatalf("%x %d: %x %d", from, n, b, e)
			}
			rest, _ := count.After(b, math.MaxUint64-n)
			if all, _ := count.After(from, math.MaxUint64); !bytes.Equal(rest, all) {
				t.Fatalf("%x %d and the rest: %x", from, n, rest)
			}
			block, _ = count.Next(block)
		}
	}
}

// P6.1
func TestStepsOfWrongLength(t *testing.T) {
	for _, block := range wrong() {
		if b, e := count.Next(block); len(b) != 0 || e != api.ErrRange {
			t.Error(len(block), b, e)
		}
		for _, n := range []uint64{0, 1, 4, 1 << 32, math.MaxUint64} {
			if b, e := count.After(block, n); len(b) != 0 || e != api.ErrRange {
				t.Error(len(block), n, b, e)
			}
		}
	}
}

// P6.2: vectors of SP 800-38A and of RFC 3686.
func TestVectors(t *testing.T) {
	for i, c := range []struct{ key, from, text, want string }{
		{sampleKey, sampleFrom, sampleText, sampleTurned},
		{"ae6852f8121067cc4bf7a5765577f39e", "00000030000000000000000000000001", "53696e676c6520626c6f636b206d7367", "e4095d4fb7a7b3792d6175a3261311b8"},
		{"7e24067817fae0d743d6ce1f32539163", "006cb6dbc0543b59da48d90b00000001", "000102030405060708090a0b0c0d0e0f101112131415161718191a1b1c1d1e1f", "5104a106168a72d9790d41ee8edad388eb2e1efc46da57c8fce630df9141be28"},
	} {
		key, from, text, want := raw(t, c.key), raw(t, c.from), raw(t, c.text), raw(t, c.want)
		if b, e := count.Turn(key, from, text); !bytes.Equal(b, want) || e != api.OK {
			t.Errorf("%d: %x %d", i, b, e)
		}
		if b, e := count.Stream(key, from, len(text)); !bytes.Equal(b, added(text, want)) || e != api.OK {
			t.Errorf("%d: %x %d", i, b, e)
		}
	}
}

// P6.2
func TestEachLength(t *testing.T) {
	for i, n := range lengths() {
		key, from, text := mixed(16, uint64(i)), mixed(16, uint64(i)+1000), mixed(n, uint64(i)+2000)
		want := streamed(t, key, from, n)
		if s, e := count.Stream(key, from, n); !bytes.Equal(s, want) || e != api.OK {
			t.Errorf("%d: %x %d", n, s, e)
		}
		if b, e := count.Turn(key, from, text); !bytes.Equal(b, added(text, want)) || e != api.OK {
			t.Errorf("%d: %x %d", n, b, e)
		}
	}
}

// P6.2: from blocks behind which the number carries or wraps.
func TestStreamFromEachBlock(t *testing.T) {
	for i, from := range froms() {
		key, text := mixed(16, uint64(i)), mixed(100, uint64(i)+1000)
		want := streamed(t, key, from, 100)
		if s, e := count.Stream(key, from, 100); !bytes.Equal(s, want) || e != api.OK {
			t.Errorf("%x: %x %d", from, s, e)
		}
		if b, e := count.Turn(key, from, text); !bytes.Equal(b, added(text, want)) || e != api.OK {
			t.Errorf("%x: %x %d", from, b, e)
		}
	}
}

// P6.2: a stream from a later block is the rest of it, also where the number wraps.
func TestStreamsGoOn(t *testing.T) {
	key := mixed(16, 1)
	for _, from := range froms() {
		whole, _ := count.Stream(key, from, 120)
		for k := range 7 {
			later, _ := count.After(from, uint64(k))
			if s, e := count.Stream(key, later, 120-16*k); !bytes.Equal(s, whole[16*k:]) || e != api.OK {
				t.Errorf("%x %d: %x %d", from, k, s, e)
			}
		}
	}
}

// P6.2: Go's own counter mode does the same, as long as the last four bytes don't wrap (its number has all sixteen).
func TestAsTheStandard(t *testing.T) {
	key, from := mixed(16, 2), mixed(16, 3)
	from[12] = 1
	c, err := standard.NewCipher(key)
	if err != nil {
		t.Fatal(err)
	}
	for _, n := range lengths() {
		text := mixed(n, uint64(n))
		want := make([]byte, n)
		cipher.NewCTR(c, from).XORKeyStream(want, text)
		if b, e := count.Turn(key, from, text); !bytes.Equal(b, want) || e != api.OK {
			t.Errorf("%d: %x %d", n, b, e)
		}
	}
}

// P6.2
func TestKeyOrBlockOfWrongLength(t *testing.T) {
	good := mixed(16, 4)
	for _, bad := range wrong() {
		for _, c := range [][2][]byte{{bad, good}, {good, bad}, {bad, bad}} {
			for _, n := range []int{0, 1, 16, 17, 70} {
				if s, e := count.Stream(c[0], c[1], n); len(s) != 0 || e != api.ErrRange {
					t.Error(len(c[0]), len(c[1]), n, s, e)
				}
				if b, e := count.Turn(c[0], c[1], mixed(n, 5)); len(b) != 0 || e != api.ErrRange {
					t.Error(len(c[0]), len(c[1]), n, b, e)
				}
			}
			if b, e := count.Turn(c[0], c[1], nil); len(b) != 0 || e != api.ErrRange {
				t.Error(len(c[0]), len(c[1]), b, e)
			}
		}
	}
}

// P6.2
func TestTooLong(t *testing.T) {
	key, from := mixed(16, 6), mixed(16, 7)
	for _, n := range []int{-1, -2, -16, -65535, math.MinInt32, math.MinInt64, 65536, 65537, 65552, 1 << 31, 1 << 32, 1<<32 + 1, math.MaxInt64} {
		for _, k := range [][]byte{key, key[:15]} {
			if s, e := count.Stream(k, from, n); len(s) != 0 || e != api.ErrRange {
				t.Error(len(k), n, len(s), e)
			}
		}
	}
	for _, n := range []int{65536, 65537, 65552, 1 << 20} {
		if b, e := count.Turn(key, from, make([]byte, n)); len(b) != 0 || e != api.ErrRange {
			t.Error(n, len(b), e)
		}
	}
	if b, e := count.Turn(key, from, make([]byte, 65535, 70000)); len(b) != 65535 || e != api.OK { // what lies behind the length does not count
		t.Error(len(b), e)
	}
}

// P6.2
func TestNoBytes(t *testing.T) {
	key, from := mixed(16, 8), mixed(16, 9)
	if s, e := count.Stream(key, from, 0); len(s) != 0 || e != api.OK {
		t.Error(s, e)
	}
	for _, text := range [][]byte{nil, {}, make([]byte, 0, 16)} {
		if b, e := count.Turn(key, from, text); len(b) != 0 || e != api.OK {
			t.Error(b, e)
		}
	}
}

// P6.3
func TestTwice(t *testing.T) {
	for i, n := range lengths() {
		key, from, text := mixed(16, uint64(i)+10), froms()[i%len(froms())], mixed(n, uint64(i)+20)
		b, e := count.Turn(key, from, text)
		back, f := count.Turn(key, from, b)
		if !bytes.Equal(back, text) || e != api.OK || f != api.OK || n > 15 && bytes.Equal(b, text) {
			t.Errorf("%d: %x %x %d %d", n, b, back, e, f)
		}
	}
}

// P6.3: arguments stay as they are, and what lies behind them too.
func TestArgumentsStay(t *testing.T) {
	whole := mixed(200, 11)
	copy(whole[30:46], slices.Repeat([]byte{255}, 16))
	want := slices.Clone(whole)
	key, from := whole[2:18], whole[30:46]
	count.Next(from)
	count.After(from, 7)
	count.Next(whole[30:47])
	count.After(whole[:15], 7)
	count.Stream(key, from, 40)
	count.Stream(key, from, 0)
	count.Stream(key, from, -1)
	count.Turn(key, from, whole[60:137])
	count.Turn(key, from, whole[:0])
	count.Turn(key, from, from)
	count.Turn(key, key, key)
	count.Turn(whole[:15], from, key)
	if !bytes.Equal(whole, want) {
		t.Errorf("%x", whole)
	}
}

// P6.3: results are new memory: to overwrite them, as far as it goes, changes neither an argument nor another result.
func TestResultsAreNew(t *testing.T) {
	key, from, text := mixed(16, 12), mixed(16, 13), mixed(40, 14)
	kept := slices.Concat(key, from, text)
	for name, call := range map[string]func() ([]byte, api.Errno){
		"next":        func() ([]byte, api.Errno) { return count.Next(from) },
		"after none":  func() ([]byte, api.Errno) { return count.After(from, 0) },
		"after":       func() ([]byte, api.Errno) { return count.After(from, 9) },
		"stream":      func() ([]byte, api.Errno) { return count.Stream(key, from, 37) },
		"block":       func() ([]byte, api.Errno) { return count.Stream(key, from, 16) },
		"turn":        func() ([]byte, api.Errno) { return count.Turn(key, from, text) },
		"turn of key": func() ([]byte, api.Errno) { return count.Turn(key, from, key) },
		"turn none":   func() ([]byte, api.Errno) { return count.Turn(key, from, text[:0]) },
	} {
		first, _ := call()
		second, _ := call()
		want := slices.Clone(first)
		for i := range first[:cap(first)] {
			first[:cap(first)][i] ^= 0xa5
		}
		third, e := call()
		if !bytes.Equal(second, want) || !bytes.Equal(third, want) || e != api.OK {
			t.Errorf("%s: %x, then %x and %x", name, want, second, third)
		}
		if !bytes.Equal(slices.Concat(key, from, text), kept) {
			t.Errorf("%s: %x %x %x", name, key, from, text)
		}
	}
}

// P6.2: what follows the first n bytes of a key stream is not handed out behind them.
func TestStreamIsCutOff(t *testing.T) {
	key, from := mixed(16, 15), mixed(16, 16)
	for _, n := range lengths() {
		if s, _ := count.Stream(key, from, n); len(s) != n || cap(s) != n {
			t.Error(n, len(s), cap(s))
		}
	}
}

// P6.3: arguments may be changed afterwards.
func TestArgumentsMayChange(t *testing.T) {
	key, from, text := raw(t, sampleKey), raw(t, sampleFrom), raw(t, sampleText)
	next, _ := count.Next(from)
	same, _ := count.After(from, 0)
	stream, _ := count.Stream(key, from, len(text))
	turned, _ := count.Turn(key, from, text)
	clear(key)
	clear(from)
	clear(text)
	if hex.EncodeToString(next) != "f0f1f2f3f4f5f6f7f8f9fafbfcfdff00" || hex.EncodeToString(same) != sampleFrom {
		t.Errorf("%x %x", next, same)
	}
	if hex.EncodeToString(turned) != sampleTurned || !bytes.Equal(added(turned, stream), raw(t, sampleText)) {
		t.Errorf("%x %x", stream, turned)
	}
}

// P6.3: calls of many goroutines with the same arguments do no harm to each other.
func TestAtOnce(t *testing.T) {
	key, from, text := raw(t, sampleKey), raw(t, sampleFrom), raw(t, sampleText)
	var all sync.WaitGroup
	for range 8 {
		all.Go(func() {
			for range 20 {
				if b, e := count.Turn(key, from, text); hex.EncodeToString(b) != sampleTurned || e != api.OK {
					t.Errorf("%x %d", b, e)
				}
			}
		})
	}
	all.Wait()
}
