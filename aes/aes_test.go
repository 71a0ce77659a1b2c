package aes_test

import (
	"bytes"
	standard "crypto/aes"
	"encoding/hex"
	"slices"
	"sync"
	"testing"

	"crossway/aes"
	"crossway/api"
)

func raw(t *testing.T, s string) []byte {
	t.Helper()
	b, err := hex.DecodeString(s)
	if err != nil {
		t.Fatal(s, err)
	}
	return b
}

func cipher(t *testing.T, key []byte) *aes.Cipher {
	t.Helper()
	c, e := aes.New(key)
	if c == nil || e != api.OK {
		t.Fatalf("%x: %v %d", key, c, e)
	}
	return c
}

// blocks are some of 16 bytes: equal bytes, single bits, and others without a pattern.
func blocks() [][]byte {
	var list [][]byte
	for _, a := range []byte{0, 1, 0x63, 0x80, 255} {
		list = append(list, bytes.Repeat([]byte{a}, 16))
	}
	for bit := range 128 {
		b := make([]byte, 16)
		b[bit/8] = 0x80 >> (bit % 8)
		list = append(list, b)
	}
	state := uint32(1)
	for range 100 {
		b := make([]byte, 16)
		for i := range b {
			state = state*1664525 + 1013904223
			b[i] = byte(state >> 24)
		}
		list = append(list, b)
	}
	return list
}

// lengths are wrong ones.
func lengths() []int {
	list := []int{24, 31, 32, 33, 48, 64, 255, 256, 272, 65535, 65536, 65552}
	for n := range 24 {
		if n != 16 {
			list = append(list, n)
		}
	}
	return list
}

// P3.1: vectors of the standards.
func TestVectors(t *testing.T) {
	for i, v := range []struct{ key, text, want string }{
		{"000102030405060708090a0b0c0d0e0f", "00112233445566778899aabbccddeeff", "69c4e0d86a7b0430d8cdb78070b4c55a"},
		{"2b7e151628aed2a6abf7158809cf4f3c", "3243f6a8885a308d313198a2e0370734", "3925841d02dc09fbdc118597196a0b32"},
		{"2b7e151628aed2a6abf7158809cf4f3c", "6bc1bee22e409f96e93d7e117393172a", "3ad77bb40d7a3660a89ecaf32466ef97"},
		{"2b7e151628aed2a6abf7158809cf4f3c", "ae2d8a571e03ac9c9eb76fac45af8e51", "f5d3d58503b9699de785895a96fdbaaf"},
		{"2b7e151628aed2a6abf7158809cf4f3c", "30c81c46a35ce411e5fbc1191a0a52ef", "43b1cd7f598ece23881b00e3ed030688"},
		{"2b7e151628aed2a6abf7158809cf4f3c", "f69f2445df4f9b17ad2b417be66c3710", "7b0c785e27e8ad3f8223207104725dd4"},
		{"00000000000000000000000000000000", "00000000000000000000000000000000", "66e94bd4ef8a2c3b884cfa59ca342b2e"},
	} {
		c := cipher(t, raw(t, v.key))
		a, e := c.Encrypt(raw(t, v.text))
		if hex.EncodeToString(a) != v.want || e != api.OK {
			t.Errorf("%d: %x %d", i, a, e)
		}
		b, e := c.Decrypt(raw(t, v.want))
		if hex.EncodeToString(b) != v.text || e != api.OK {
			t.Errorf("%d back: %x %d", i, b, e)
		}
	}
}

// P3.1: many keys and many blocks, held against Go's own cipher.
func TestAsTheStandard(t *testing.T) {
	list := blocks()
	for i, key := range list {
		c := cipher(t, key)
		other, err := standard.NewCipher(key)
		if err != nil {
			t.Fatal(err)
		}
		for j, block := range list {
			if (i+j)%5 != 0 && i > 4 && j > 4 { // a fifth of the pairs is enough
				continue
			}
			want := make([]byte, 16)
			other.Encrypt(want, block)
			if a, e := c.Encrypt(block); !bytes.Equal(a, want) || e != api.OK {
				t.Fatalf("%x %x: %x %d", key, block, a, e)
			}
			other.Decrypt(want, block)
			if b, e := c.Decrypt(block); !bytes.Equal(b, want) || e != api.OK {
				t.Fatalf("%x %x back: %x %d", key, block, b, e)
			}
		}
	}
}

// P3.2: either way inverts the other one.
func TestInverses(t *testing.T) {
	list := blocks()
	for i, key := range list {
		c := cipher(t, key)
		for _, block := range [][]byte{key, list[0], list[4], list[len(list)-1-i]} {
			a, e := c.Encrypt(block)
			back, f := c.Decrypt(a)
			if !bytes.Equal(back, block) || e != api.OK || f != api.OK || bytes.Equal(a, block) {
				t.Errorf("%x %x: %x %x %d %d", key, block, a, back, e, f)
			}
			b, e := c.Decrypt(block)
			back, f = c.Encrypt(b)
			if !bytes.Equal(back, block) || e != api.OK || f != api.OK || bytes.Equal(b, block) {
				t.Errorf("%x %x the other way: %x %x %d %d", key, block, b, back, e, f)
			}
		}
	}
}

// P3.1
func TestKeyOfWrongLength(t *testing.T) {
	if c, e := aes.New(nil); c != nil || e != api.ErrRange {
		t.Error(c, e)
	}
	for _, n := range lengths() {
		if c, e := aes.New(make([]byte, n)); c != nil || e != api.ErrRange {
			t.Error(n, c, e)
		}
		if c, e := aes.New(make([]byte, n, n+16)); c != nil || e != api.ErrRange { // what lies behind the length does not count
			t.Error(n, c, e)
		}
	}
}

// P3.1: a wrong length answers nothing, isn't counted, and does no harm to calls behind it.
func TestBlockOfWrongLength(t *testing.T) {
	c := cipher(t, make([]byte, 16))
	want, _ := c.Encrypt(make([]byte, 16))
	for name, call := range map[string]func([]byte) ([]byte, api.Errno){"encrypt": c.Encrypt, "decrypt": c.Decrypt} {
		if b, e := call(nil); len(b) != 0 || e != api.ErrRange {
			t.Error(name, b, e)
		}
		for _, n := range lengths() {
			if b, e := call(make([]byte, n)); len(b) != 0 || e != api.ErrRange {
				t.Error(name, n, b, e)
			}
			if b, e := call(make([]byte, n, n+16)); len(b) != 0 || e != api.ErrRange {
				t.Error(name, n, b, e)
			}
		}
	}
	if c.Done() != 1 {
		t.Error(c.Done())
	}
	if a, e := c.Encrypt(make([]byte, 16)); !bytes.Equal(a, want) || e != api.OK || c.Done() != 2 {
		t.Errorf("%x %d %d", a, e, c.Done())
	}
}

// P3.1: the first round key is the key itself; the others are those that the standard lists for this one.
func TestKeys(t *testing.T) {
	for i, want := range [][]string{
		{
			"2b7e151628aed2a6abf7158809cf4f3c", "a0fafe1788542cb123a339392a6c7605", "f2c295f27a96b9435935807a7359f67f",
			"3d80477d4716fe3e1e237e446d7a883b", "ef44a541a8525b7fb671253bdb0bad00", "d4d1c6f87c839d87caf2b8bc11f915bc",
			"6d88a37a110b3efddbf98641ca0093fd", "4e54f70e5f5fc9f384a64fb24ea6dc4f", "ead27321b58dbad2312bf5607f8d292f",
			"ac7766f319fadc2128d12941575c006e", "d014f9a8c9ee2589e13f0cc8b6630ca6",
		},
		{
			"00000000000000000000000000000000", "62636363626363636263636362636363", "9b9898c9f9fbfbaa9b9898c9f9fbfbaa",
			"90973450696ccffaf2f457330b0fac99", "ee06da7b876a1581759e42b27e91ee2b", "7f2e2b88f8443e098dda7cbbf34b9290",
			"ec614b851425758c99ff09376ab49ba7", "217517873550620bacaf6b3cc61bf09b", "0ef903333ba9613897060a04511dfa9f",
			"b1d4d8e28a7db9da1d7bb3de4c664941", "b4ef5bcb3e92e21123e951cf6f8f188e",
		},
	} {
		c := cipher(t, raw(t, want[0]))
		for range 2 {
			list := c.Keys()
			if len(list) != 11 {
				t.Fatal(i, len(list))
			}
			for n, k := range list {
				if hex.EncodeToString(k) != want[n] {
					t.Errorf("%d %d: %x", i, n, k)
				}
			}
		}
	}
}

// P3.1: in each fourth word's difference from the word four before, the powers of x tell the rounds apart.
func TestKeysRoundByRound(t *testing.T) {
	powers := []byte{1, 2, 4, 8, 0x10, 0x20, 0x40, 0x80, 0x1b, 0x36}
	box := map[byte]byte{} // bytes that are met below, by what stands for them
	for _, key := range blocks() {
		list := cipher(t, key).Keys()
		if len(list) != 11 || !bytes.Equal(list[0], key) {
			t.Fatalf("%x: %x", key, list)
		}
		for n := 1; n < 11; n++ {
			before, now := list[n-1], list[n]
			for i := 4; i < 16; i++ {
				if now[i] != before[i]^now[i-4] {
					t.Fatalf("%x: %d %d", key, n, i)
				}
			}
			for i := range 4 {
				s := now[i] ^ before[i]
				if i == 0 {
					s ^= powers[n-1]
				}
				from := before[12+(i+1)%4]
				if old, ok := box[from]; ok && old != s {
					t.Fatalf("%x: %d %d: %x and %x for %x", key, n, i, old, s, from)
				}
				box[from] = s
			}
		}
	}
	for from, s := range map[byte]byte{0: 0x63, 1: 0x7c, 0x53: 0xed, 255: 0x16} {
		if box[from] != s {
			t.Errorf("%x: %x", from, box[from])
		}
	}
}

// P3.1: each cipher counts what it encrypted and decrypted itself; nothing else counts.
func TestDone(t *testing.T) {
	key := make([]byte, 16)
	c, other := cipher(t, key), cipher(t, key)
	if c.Done() != 0 {
		t.Error(c.Done())
	}
	want := 0
	for i, block := range blocks() {
		if i%3 != 0 {
			c.Encrypt(block)
			want++
		}
		if i%4 != 0 {
			c.Decrypt(block)
			want++
		}
		c.Keys()
		c.Encrypt(block[:15])
		c.Decrypt(nil)
		if c.Done() != want || c.Done() != want {
			t.Fatal(i, c.Done(), want)
		}
	}
	if other.Done() != 0 {
		t.Error(other.Done())
	}
}

// P3.1: blocks of many goroutines are all counted, and none harms another.
func TestDoneAtOnce(t *testing.T) {
	c := cipher(t, raw(t, "000102030405060708090a0b0c0d0e0f"))
	text, want := raw(t, "00112233445566778899aabbccddeeff"), raw(t, "69c4e0d86a7b0430d8cdb78070b4c55a")
	var all sync.WaitGroup
	for range 8 {
		all.Go(func() {
			for range 100 {
				a, _ := c.Encrypt(text)
				b, _ := c.Decrypt(want)
				if !bytes.Equal(a, want) || !bytes.Equal(b, text) || len(c.Keys()) != 11 {
					t.Errorf("%x %x", a, b)
				}
			}
		})
	}
	all.Wait()
	if c.Done() != 1600 {
		t.Error(c.Done())
	}
}

// P3.2: arguments stay as they are, and what lies behind them too.
func TestArgumentsStay(t *testing.T) {
	whole := raw(t, "a5a5000102030405060708090a0b0c0d0e0fa5a5a5a5")
	want := slices.Clone(whole)
	c := cipher(t, whole[2:18])
	c.Encrypt(whole[2:18])
	c.Decrypt(whole[2:18])
	c.Encrypt(whole[2:17])
	aes.New(whole[2:19])
	if !bytes.Equal(whole, want) {
		t.Errorf("%x", whole)
	}
}

// P3.2: arguments may be changed afterwards.
func TestArgumentsMayChange(t *testing.T) {
	key := raw(t, "000102030405060708090a0b0c0d0e0f")
	text, want := raw(t, "00112233445566778899aabbccddeeff"), raw(t, "69c4e0d86a7b0430d8cdb78070b4c55a")
	c := cipher(t, key)
	clear(key)
	block := slices.Clone(text)
	a, _ := c.Encrypt(block)
	clear(block)
	if !bytes.Equal(a, want) {
		t.Errorf("%x", a)
	}
	copy(block, want)
	b, _ := c.Decrypt(block)
	clear(block)
	if !bytes.Equal(b, text) {
		t.Errorf("%x", b)
	}
	if k := c.Keys()[0]; hex.EncodeToString(k) != "000102030405060708090a0b0c0d0e0f" {
		t.Errorf("%x", k)
	}
}

// spoil overwrites a result as far as its memory goes.
func spoil(b []byte) {
	b = b[:cap(b)]
	for i := range b {
		b[i] = 0xa5
	}
}

// P3.2: results are new memory: to overwrite them changes neither the cipher nor an argument nor another result.
func TestResultsAreNew(t *testing.T) {
	key, text := raw(t, "000102030405060708090a0b0c0d0e0f"), raw(t, "00112233445566778899aabbccddeeff")
	c := cipher(t, key)
	first, _ := c.Encrypt(text)
	second, _ := c.Encrypt(text)
	want := slices.Clone(first)
	spoil(first)
	if !bytes.Equal(second, want) {
		t.Errorf("%x", second)
	}
	third, _ := c.Decrypt(second)
	spoil(second)
	fourth, _ := c.Decrypt(want)
	if !bytes.Equal(third, text) {
		t.Errorf("%x", third)
	}
	spoil(third)
	if !bytes.Equal(fourth, raw(t, "00112233445566778899aabbccddeeff")) || !bytes.Equal(text, fourth) {
		t.Errorf("%x %x", fourth, text)
	}
	if a, _ := c.Encrypt(text); !bytes.Equal(a, want) {
		t.Errorf("%x", a)
	}
}

// P3.2: so are the round keys, which are apart from each other too.
func TestKeysAreNew(t *testing.T) {
	key, text := raw(t, "000102030405060708090a0b0c0d0e0f"), raw(t, "00112233445566778899aabbccddeeff")
	c := cipher(t, key)
	want, list, other := c.Keys(), c.Keys(), c.Keys()
	for n := range list {
		spoil(list[n])
		for later := n + 1; later < len(list); later++ {
			if !bytes.Equal(list[later], want[later]) {
				t.Fatal(n, later)
			}
		}
	}
	list = append(list[:0], key)
	for n := range other {
		if !bytes.Equal(other[n], want[n]) || !bytes.Equal(c.Keys()[n], want[n]) {
			t.Errorf("%d: %x %x", n, other[n], c.Keys()[n])
		}
	}
	if a, _ := c.Encrypt(text); hex.EncodeToString(a) != "69c4e0d86a7b0430d8cdb78070b4c55a" {
		t.Errorf("%x", a)
	}
	if !bytes.Equal(key, list[0]) || key[15] != 15 {
		t.Errorf("%x", key)
	}
}
