package ghash_test

import (
	"bytes"
	standard "crypto/aes"
	"crypto/cipher"
	"encoding/binary"
	"encoding/hex"
	"math"
	"slices"
	"sync"
	"testing"

	"crossway/api"
	"crossway/ghash"
	"crossway/poly"
)

// zeros is the hash key that AES-128 makes of a key of zeros.
const zeros = "66e94bd4ef8a2c3b884cfa59ca342b2e"

func raw(t *testing.T, s string) []byte {
	t.Helper()
	b, err := hex.DecodeString(s)
	if err != nil {
		t.Fatal(s, err)
	}
	return b
}

func hash(t *testing.T, key []byte) *ghash.Hash {
	t.Helper()
	h, e := ghash.New(key)
	if h == nil || e != api.OK {
		t.Fatal(key, e)
	}
	return h
}

// mixed are n bytes without a pattern; others for another seed.
func mixed(n int, seed uint64) []byte {
	b := make([]byte, n)
	for i := range b {
		seed = seed*6364136223846793005 + 1442695040888963407
		b[i] = byte(seed >> 40)
	}
	return b
}

// element is taken from sixteen bytes by another library than the program's.
func element(b []byte) poly.Elem {
	return poly.Elem{Hi: binary.BigEndian.Uint64(b), Lo: binary.BigEndian.Uint64(b[8:])}
}

func keys() [][]byte {
	return [][]byte{
		make([]byte, 16),
		slices.Repeat([]byte{255}, 16),
		append([]byte{0x80}, make([]byte, 15)...),
		append(make([]byte, 15), 1),
		mixed(16, 1),
		mixed(16, 2),
		mixed(16, 3),
	}
}

// elems are some elements: each value of each four coefficients, and others without a pattern.
func elems() []poly.Elem {
	list := []poly.Elem{{}, {Hi: math.MaxUint64}, {Lo: math.MaxUint64}, {Hi: math.MaxUint64, Lo: math.MaxUint64}}
	for k := range 16 {
		for v := range uint64(16) {
			list = append(list, poly.Elem{Hi: v << (4 * k)}, poly.Elem{Lo: v << (4 * k)})
		}
	}
	for n := range uint64(40) {
		list = append(list, element(mixed(16, n+9)))
	}
	return list
}

// folded folds without a table.
func folded(key, from poly.Elem, blocks ...poly.Elem) poly.Elem {
	for _, b := range blocks {
		from = poly.Elem{Hi: from.Hi ^ b.Hi, Lo: from.Lo ^ b.Lo}.Times(key)
	}
	return from
}

// divided pads first and divides afterwards.
func divided(b []byte) []poly.Elem {
	b = slices.Concat(b, make([]byte, (16-len(b)%16)%16))
	var list []poly.Elem
	for len(b) > 0 {
		list = append(list, element(b))
		b = b[16:]
	}
	return list
}

// summed is the hash of two byte strings, without a table.
func summed(key, first, second []byte) []byte {
	blocks := slices.Concat(divided(first), divided(second))
	blocks = append(blocks, poly.Elem{Hi: uint64(len(first)) * 8, Lo: uint64(len(second)) * 8})
	e := folded(element(key), poly.Elem{}, blocks...)
	return binary.BigEndian.AppendUint64(binary.BigEndian.AppendUint64(nil, e.Hi), e.Lo)
}

// lengths are those of byte strings: around the first few blocks' ends, and great ones.
func lengths() []int {
	list := []int{255, 256, 257, 4095, 4096, 8191, 8192, 65535, 65536, 65551, 65552}
	for n := range 67 {
		list = append(list, n)
	}
	return list
}

// P5.1
func TestNew(t *testing.T) {
	for _, key := range keys() {
		h := hash(t, key)
		if e := h.Times(poly.One()); e != element(key) {
			t.Errorf("%x: %x", key, e)
		}
	}
}

// P5.1
func TestKeyOfWrongLength(t *testing.T) {
	if h, e := ghash.New(nil); h != nil || e != api.ErrRange {
		t.Error(h, e)
	}
	for _, n := range lengths() {
		if n == 16 {
			continue
		}
		for _, key := range [][]byte{make([]byte, n), slices.Repeat([]byte{255}, n), make([]byte, n, n+16)} { // what lies behind the length does not count
			if h, e := ghash.New(key); h != nil || e != api.ErrRange {
				t.Error(n, h, e)
			}
		}
	}
}

// P5.1
func TestBlocks(t *testing.T) {
	for i, c := range []struct {
		b    []byte
		want []poly.Elem
	}{
		{nil, nil},
		{[]byte{}, nil},
		{[]byte{0}, []poly.Elem{{}}},
		{[]byte{0x80}, []poly.Elem{{Hi: 1 << 63}}},
		{[]byte{1, 2, 3}, []poly.Elem{{Hi: 0x010203 << 40}}},
		{[]byte{1, 2, 3, 4, 5, 6, 7, 8}, []poly.Elem{{Hi: 0x0102030405060708}}},
		{[]byte{1, 2, 3, 4, 5, 6, 7, 8, 9}, []poly.Elem{{Hi: 0x0102030405060708, Lo: 9 << 56}}},
		{[]byte{1, 2, 3, 4, 5, 6, 7, 8, 9, 10, 11, 12, 13, 14, 15}, []poly.Elem{{Hi: 0x0102030405060708, Lo: 0x090a0b0c0d0e0f00}}},
		{[]byte{1, 2, 3, 4, 5, 6, 7, 8, 9, 10, 11, 12, 13, 14, 15, 16}, []poly.Elem{{Hi: 0x0102030405060708, Lo: 0x090a0b0c0d0e0f10}}},
		{[]byte{1, 2, 3, 4, 5, 6, 7, 8, 9, 10, 11, 12, 13, 14, 15, 16, 17}, []poly.Elem{{Hi: 0x0102030405060708, Lo: 0x090a0b0c0d0e0f10}, {Hi: 17 << 56}}},
		{make([]byte, 32), []poly.Elem{{}, {}}},
		{make([]byte, 33), []poly.Elem{{}, {}, {}}},
	} {
		if list := ghash.Blocks(c.b); !slices.Equal(list, c.want) {
			t.Errorf("%d: %x", i, list)
		}
	}
}

// P5.1: the last block is padded with zeros, not with what lies behind the bytes or in the block before.
func TestBlocksOfEachLength(t *testing.T) {
	for _, n := range lengths() {
		whole := slices.Repeat([]byte{255}, n+32)
		b := whole[:n]
		copy(b, mixed(n, 4))
		if list := ghash.Blocks(b); !slices.Equal(list, divided(b)) || len(list) != (n+15)/16 {
			t.Errorf("%d: %x", n, list)
		}
	}
}

// P5.1
func TestTimes(t *testing.T) {
	for _, key := range keys() {
		h, k := hash(t, key), element(key)
		for _, e := range elems() {
			if p := h.Times(e); p != e.Times(k) {
				t.Errorf("%x %x: %x", key, e, p)
			}
		}
	}
}

// P5.1: with each power of x as the key, and as the other factor.
func TestTimesOfPowersOfX(t *testing.T) {
	key := poly.One()
	for range 128 {
		h := hash(t, key.Bytes())
		e := poly.One()
		for range 128 {
			if p := h.Times(e); p != e.Times(key) {
				t.Fatalf("%x %x: %x", key, e, p)
			}
			e = e.Next()
		}
		key = key.Next()
	}
}

// P5.1
func TestFold(t *testing.T) {
	list := elems()
	for _, key := range keys() {
		h, k := hash(t, key), element(key)
		for i, from := range list {
			if e := h.Fold(from); e != from {
				t.Errorf("%x %x: %x", key, from, e)
			}
			if e := h.Fold(from, poly.Elem{}); e != from.Times(k) {
				t.Errorf("%x %x and zero: %x", key, from, e)
			}
			if e := h.Fold(from, from); e != (poly.Elem{}) {
				t.Errorf("%x %x and the same: %x", key, from, e)
			}
			blocks := list[i:min(i+5, len(list))]
			want := folded(k, from, blocks...)
			if e := h.Fold(from, blocks...); e != want {
				t.Errorf("%x %x %x: %x", key, from, blocks, e)
			}
			if e := h.Fold(h.Fold(from, blocks[:1]...), blocks[1:]...); e != want {
				t.Errorf("%x %x %x in two calls: %x", key, from, blocks, e)
			}
		}
	}
}

// P5.1: by hand, from what comes of two blocks and a start: ((start + first) H + second) H.
func TestFoldInOrder(t *testing.T) {
	key := element(raw(t, zeros))
	h := hash(t, raw(t, zeros))
	start, first, second := poly.Elem{Hi: 3}, poly.Elem{Lo: 5}, poly.Elem{Hi: 1 << 63, Lo: 9}
	want := poly.Sum(poly.Sum(start, first).Times(key).Times(key), second.Times(key))
	if e := h.Fold(start, first, second); e != want {
		t.Errorf("%x, not %x", e, want)
	}
	if e := h.Fold(start, second, first); e == want {
		t.Errorf("turned: %x", e)
	}
}

// P5.2: the sums that the authors of GCM print in their test cases 1 to 6.
func TestVectors(t *testing.T) {
	const (
		other = "b83b533708bf535d0aa6e52980d53b78"
		note  = "feedfacedeadbeeffeedfacedeadbeefabaddad2"
	)
	for i, c := range []struct{ key, first, second, want string }{
		{zeros, "", "", "00000000000000000000000000000000"},
		{zeros, "", "0388dace60b6a392f328c2b971b2fe78", "f38cbb1ad69223dcc3457ae5b6b0f885"},
		{other, "", "42831ec2217774244b7221b784d0d49ce3aa212f2c02a4e035c17e2329aca12e21d514b25466931c7d8f6a5aac84aa051ba30b396a0aac973d58e091473f5985", "7f1b32b81b820d02614f8895ac1d4eac"},
		{other, note, "42831ec2217774244b7221b784d0d49ce3aa212f2c02a4e035c17e2329aca12e21d514b25466931c7d8f6a5aac84aa051ba30b396a0aac973d58e091", "698e57f70e6ecc7fd9463b7260a9ae5f"},
		{other, note, "61353b4c2806934a777ff51fa22a4755699b2a714fcdc6f83766e5f97b6c742373806900e49f24b22b097544d4896b424989b5e1ebac0f07c23f4598", "df586bb4c249b92cb6922877e444d37b"},
		{other, note, "8ce24998625615b603a033aca13fb894be9112a5c3a211a8ba262a3cca7e2ca701e4a9a4fba43c90ccdcb281d48c7c6fd62875d2aca417034c34aee5", "1c5afe9760d3932f3c9a878aac3dc3de"},
	} {
		s := hash(t, raw(t, c.key)).Sum(raw(t, c.first), raw(t, c.second))
		if hex.EncodeToString(s) != c.want {
			t.Errorf("%d: %x", i, s)
		}
	}
}

// P5.2
func TestSumOfEachLength(t *testing.T) {
	for _, key := range keys() {
		h := hash(t, key)
		for i, n := range lengths() {
			for _, m := range []int{0, 1, 15, 16, 17, 32, lengths()[len(lengths())-1-i]} {
				first, second := mixed(n, 5), mixed(m, 6)
				if s := h.Sum(first, second); !bytes.Equal(s, summed(key, first, second)) {
					t.Errorf("%x %d %d: %x", key, n, m, s)
				}
			}
		}
	}
}

// P5.2: Go's own GCM adds a block to the sum, which is the same for each text of a nonce.
func TestAsTheStandard(t *testing.T) {
	block, err := standard.NewCipher(mixed(16, 7))
	if err != nil {
		t.Fatal(err)
	}
	box, err := cipher.NewGCM(block)
	if err != nil {
		t.Fatal(err)
	}
	nonce, key, added := mixed(12, 8), make([]byte, 16), make([]byte, 16)
	block.Encrypt(key, key)
	block.Encrypt(added, append(slices.Clone(nonce), 0, 0, 0, 1))
	h := hash(t, key)
	for _, n := range lengths() {
		for _, m := range []int{0, 1, 16, 20, 8191, 8192} {
			note := mixed(m, 9)
			sealed := box.Seal(nil, nonce, mixed(n, 10), note)
			s := h.Sum(note, sealed[:n])
			for i := range s {
				s[i] ^= added[i]
			}
			if !bytes.Equal(s, sealed[n:]) {
				t.Errorf("%d %d: %x", n, m, s)
			}
		}
	}
}

// P5.2: where one byte string ends and the other begins, and which is which, is in the sum; so are zeros at the end.
func TestSumsAreApart(t *testing.T) {
	h := hash(t, raw(t, zeros))
	b := mixed(48, 11)
	seen := map[string]int{}
	for n := range 49 {
		seen[string(h.Sum(b[:n], b[n:]))]++
	}
	for n := range 49 {
		seen[string(h.Sum(make([]byte, n), nil))]++
		seen[string(h.Sum(nil, make([]byte, n)))]++
	}
	if len(seen) != 49+49+48 { // both are empty twice
		t.Error(len(seen))
	}
}

// P5.2
func TestMade(t *testing.T) {
	for name, call := range map[string]func(*ghash.Hash){
		"fold":          func(h *ghash.Hash) { h.Fold(poly.One(), poly.One().Next()) },
		"fold of zeros": func(h *ghash.Hash) { h.Fold(poly.Elem{}, poly.Elem{}) },
		"times":         func(h *ghash.Hash) { h.Times(poly.One()) },
		"times zero":    func(h *ghash.Hash) { h.Times(poly.Elem{}) },
		"sum":           func(h *ghash.Hash) { h.Sum([]byte{1}, []byte{2}) },
		"sum of none":   func(h *ghash.Hash) { h.Sum(nil, nil) },
	} {
		for _, key := range keys() {
			h, other := hash(t, key), hash(t, key)
			h.Fold(poly.One())
			h.Fold(poly.Elem{}, []poly.Elem{}...)
			ghash.Blocks(key)
			if h.Made() != 0 || h.Made() != 0 {
				t.Error(name, "before", h.Made())
			}
			call(h)
			if h.Made() != 1 || h.Made() != 1 {
				t.Error(name, h.Made())
			}
			for range 3 {
				call(h)
				h.Times(poly.One())
				h.Fold(poly.One(), poly.One())
				h.Sum(nil, key)
			}
			if h.Made() != 1 || other.Made() != 0 {
				t.Error(name, "afterwards", h.Made(), other.Made())
			}
		}
	}
}

// P5.2: calls of many goroutines compute the table once.
func TestAtOnce(t *testing.T) {
	key := mixed(16, 12)
	first, second := mixed(33, 13), mixed(50, 14)
	want := summed(key, first, second)
	for range 20 {
		h := hash(t, key)
		var all sync.WaitGroup
		for range 8 {
			all.Go(func() {
				if s := h.Sum(first, second); !bytes.Equal(s, want) || h.Made() != 1 {
					t.Errorf("%x %d", s, h.Made())
				}
				if e := h.Times(poly.One()); e != element(key) {
					t.Errorf("%x", e)
				}
			})
		}
		all.Wait()
		if h.Made() != 1 {
			t.Error(h.Made())
		}
	}
}

// P5.2: arguments stay as they are, and what lies behind them too.
func TestArgumentsStay(t *testing.T) {
	whole := mixed(120, 15)
	want := slices.Clone(whole)
	h := hash(t, whole[2:18])
	h.Sum(whole[20:37], whole[40:73])
	h.Sum(whole[20:37], whole[20:37])
	h.Sum(whole[:0], whole[:16])
	ghash.Blocks(whole[80:100])
	ghash.New(whole[2:19])
	if !bytes.Equal(whole, want) {
		t.Errorf("%x", whole)
	}

	list := elems()
	kept := slices.Clone(list)
	h.Fold(list[0], list[300:310]...)
	h.Fold(list[301], list[300:310]...)
	h.Times(list[302])
	if !slices.Equal(list, kept) {
		t.Errorf("%x", list)
	}
}

// P5.2: arguments may be changed afterwards, also before the table is computed.
func TestArgumentsMayChange(t *testing.T) {
	key, first, second := raw(t, zeros), mixed(20, 16), mixed(30, 17)
	want := summed(key, first, second)
	h := hash(t, key)
	clear(key)
	s, blocks := h.Sum(first, second), ghash.Blocks(first)
	kept := slices.Clone(blocks)
	clear(first)
	clear(second)
	if !bytes.Equal(s, want) || !slices.Equal(blocks, kept) {
		t.Errorf("%x %x", s, blocks)
	}
	if e := h.Times(poly.One()); hex.EncodeToString(e.Bytes()) != zeros {
		t.Errorf("%x", e)
	}
}

// P5.2: results are new memory: to overwrite them changes neither the hash nor an argument nor another result.
func TestResultsAreNew(t *testing.T) {
	key, first, second := raw(t, zeros), mixed(32, 18), mixed(5, 19)
	want, wantFirst, wantBlocks := summed(key, first, second), slices.Clone(first), divided(first)
	h := hash(t, key)
	s, again := h.Sum(first, second), h.Sum(first, second)
	blocks, more := ghash.Blocks(first), ghash.Blocks(first)
	for _, b := range [][]byte{s[:cap(s)], h.Sum(nil, nil)} {
		for i := range b {
			b[i]++
		}
	}
	for i := range blocks[:cap(blocks)] {
		blocks[:cap(blocks)][i] = poly.One()
	}
	if !bytes.Equal(again, want) || !bytes.Equal(h.Sum(first, second), want) || !bytes.Equal(h.Sum(nil, nil), make([]byte, 16)) {
		t.Errorf("%x %x", again, h.Sum(first, second))
	}
	if !slices.Equal(more, wantBlocks) || !slices.Equal(ghash.Blocks(first), wantBlocks) || !bytes.Equal(first, wantFirst) {
		t.Errorf("%x %x", more, first)
	}
}
