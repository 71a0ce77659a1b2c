package feist_test

import (
	"bytes"
	goaes "crypto/aes"
	"crypto/cipher"
	"encoding/hex"
	"math"
	"slices"
	"strings"
	"sync"
	"testing"

	"crossway/aes"
	"crossway/api"
	"crossway/feist"
	"crossway/halves"
)

const key = "8f95f09245765f80256934e50c66207f"

// passesBeyond are no numbers of a pass; some would be if only their low bytes counted.
var passesBeyond = []int{math.MinInt, math.MinInt + 1, math.MinInt32, -65535, -257, -256, -255, -4, -3, -2, -1, 256, 257, 258, 259, 260, 511, 512, 65536, 65537, 1 << 32, 1<<32 + 1, math.MaxInt32, math.MaxInt - 1, math.MaxInt}

func raw(t *testing.T, s string) []byte {
	t.Helper()
	b, err := hex.DecodeString(s)
	if err != nil {
		t.Fatal(s, err)
	}
	return b
}

// mixed are n bytes without a pattern; others for another seed.
func mixed(n int, seed uint64) []byte {
	b := make([]byte, n)
	for i := range b {
		seed = seed*6364136223846793005 + 1442695040888963407
		b[i] = byte(seed >> 40)
	}
	return b
}

// spoil writes over a slice, its spare capacity too. It counts up, so that a second time doesn't undo the first.
func spoil(b []byte) {
	b = b[:cap(b)]
	for i := range b {
		b[i]++
	}
}

// roomy is a copy of b within a greater piece of memory, so that a write behind its end shows.
func roomy(b []byte) (arg, whole []byte) {
	whole = append(slices.Clone(b), 0xa5, 0xa5, 0xa5, 0xa5)
	return whole[:len(b)], whole
}

func made(t *testing.T, key []byte) *aes.Cipher {
	t.Helper()
	c, e := aes.New(key)
	if e != api.OK {
		t.Fatalf("%x %d", key, e)
	}
	return c
}

// goes is Go's own cipher with the same key.
func goes(t *testing.T, key []byte) cipher.Block {
	t.Helper()
	c, err := goaes.NewCipher(key)
	if err != nil {
		t.Fatal(err)
	}
	return c
}

// xorDigits adds hexadecimal digits, one by one.
func xorDigits(a, b string) string {
	const digits = "0123456789abcdef"
	sum := make([]byte, len(a))
	for i := range sum {
		sum[i] = digits[strings.IndexByte(digits, a[i])^strings.IndexByte(digits, b[i])]
	}
	return string(sum)
}

// behind are the halves that the chapter's words give behind a pass, by digits of four bits: of a half's digits n are its own, and if n is odd the last one of the left half, or the first one of the right half, is not.
func behind(t *testing.T, c cipher.Block, left, right []byte, n, pass int) (l, r []byte) {
	t.Helper()
	from, onto := left, right
	if pass%2 == 0 {
		from, onto = right, left
	}
	block := slices.Concat(from, make([]byte, 14-len(from)), []byte{byte(n), byte(pass)})
	c.Encrypt(block, block)
	digits, zero := xorDigits(hex.EncodeToString(onto), hex.EncodeToString(block)), strings.Repeat("0", n%2)
	if pass%2 == 0 {
		return raw(t, digits[:n]+zero), right
	}
	return left, raw(t, zero+digits[len(digits)-n:])
}

// run is a text behind passes, in the chapter's words: the first n digits of a text of n bytes are the left half's, the others the right half's.
func run(t *testing.T, c cipher.Block, text []byte, order ...int) []byte {
	t.Helper()
	n, digits, zero := len(text), hex.EncodeToString(text), strings.Repeat("0", len(text)%2)
	left, right := raw(t, digits[:n]+zero), raw(t, zero+digits[n:])
	for _, pass := range order {
		left, right = behind(t, c, left, right, n, pass)
	}
	return raw(t, hex.EncodeToString(left)[:n]+hex.EncodeToString(right)[n%2:])
}

// lengths are some that are in bounds, or would be if only their low bytes counted, and all those about the bounds.
func lengths() []int {
	list := []int{math.MinInt, math.MinInt + 1, math.MinInt + 4, math.MinInt32, -256, -252, 256, 260, 284, 512, 65536, 65540, 1<<32 + 4, math.MaxInt32, math.MaxInt - 1, math.MaxInt}
	for n := -40; n <= 70; n++ {
		list = append(list, n)
	}
	return list
}

// outside: may no text have this length?
func outside(n int) bool { return n < 2 || n > 28 }

// asks are the calls of one test, and the cipher whose blocks they count.
type asks struct {
	*testing.T
	c *aes.Cipher
}

func start(t *testing.T) asks {
	t.Helper()
	return asks{t, made(t, raw(t, key))}
}

// counted asks whether as many blocks have been encrypted since the count was done.
func (a asks) counted(done, blocks int) {
	a.Helper()
	if n := a.c.Done() - done; n != blocks {
		a.Fatalf("%d blocks, not %d", n, blocks)
	}
}

// pass asks whether Pass has these results, and encrypts one block for them.
func (a asks) pass(left, right []byte, n, pass int, l, r []byte) {
	a.Helper()
	done := a.c.Done()
	x, y, e := feist.Pass(a.c, left, right, n, pass)
	if !bytes.Equal(x, l) || !bytes.Equal(y, r) || e != api.OK {
		a.Fatalf("%x %x %d %d: %x %x %d, not %x %x", left, right, n, pass, x, y, e, l, r)
	}
	a.counted(done, 1)
}

// noPass asks whether Pass refuses its arguments, and encrypts nothing.
func (a asks) noPass(left, right []byte, n, pass int) {
	a.Helper()
	done := a.c.Done()
	if x, y, e := feist.Pass(a.c, left, right, n, pass); len(x) != 0 || len(y) != 0 || e != api.ErrRange {
		a.Fatalf("%x %x %d %d: %x %x %d", left, right, n, pass, x, y, e)
	}
	a.counted(done, 0)
}

// passes asks whether Passes has this result, and encrypts one block a pass.
func (a asks) passes(text []byte, want []byte, order ...int) {
	a.Helper()
	done := a.c.Done()
	if b, e := feist.Passes(a.c, text, order...); !bytes.Equal(b, want) || e != api.OK {
		a.Fatalf("%x %d: %x %d, not %x", text, order, b, e, want)
	}
	a.counted(done, len(order))
}

// noPasses asks whether Passes refuses its arguments, and encrypts nothing.
func (a asks) noPasses(text []byte, order ...int) {
	a.Helper()
	done := a.c.Done()
	if b, e := feist.Passes(a.c, text, order...); len(b) != 0 || e != api.ErrRange {
		a.Fatalf("%x %d: %x %d", text, order, b, e)
	}
	a.counted(done, 0)
}

// mixes asks whether Mix makes one text the other, and Unmix takes it back; both encrypt four blocks.
func (a asks) mixes(text, want []byte) {
	a.Helper()
	done := a.c.Done()
	if b, e := feist.Mix(a.c, text); !bytes.Equal(b, want) || e != api.OK {
		a.Fatalf("%x: %x %d, not %x", text, b, e, want)
	}
	a.counted(done, 4)
	if b, e := feist.Unmix(a.c, want); !bytes.Equal(b, text) || e != api.OK {
		a.Fatalf("%x: %x %d, not %x", want, b, e, text)
	}
	a.counted(done, 8)
}

// noMix asks whether Mix and Unmix refuse a text, and encrypt nothing.
func (a asks) noMix(text []byte) {
	a.Helper()
	done := a.c.Done()
	if b, e := feist.Mix(a.c, text); len(b) != 0 || e != api.ErrRange {
		a.Fatalf("%x: %x %d", text, b, e)
	}
	if b, e := feist.Unmix(a.c, text); len(b) != 0 || e != api.ErrRange {
		a.Fatalf("%x: %x %d", text, b, e)
	}
	a.counted(done, 0)
}

// texts are four of n bytes.
func texts(n int) [][]byte {
	return [][]byte{mixed(n, 1), mixed(n, 2), make([]byte, n), bytes.Repeat([]byte{0xff}, n)}
}

// P15.1, P15.2: the chapter's example.
func TestExample(t *testing.T) {
	a := start(t)
	left, right := []byte{0x12}, []byte{0x34}
	for pass := 1; pass <= 4; pass++ {
		l, r := behind(t, goes(t, raw(t, key)), left, right, 2, pass)
		a.pass(left, right, 2, pass, l, r)
		left, right = l, r
	}
	a.mixes([]byte{0x12, 0x34}, slices.Concat(left, right))
	a.counted(0, 12)
}

// P15.2: server numbers and nonces of the examples of the draft of QUIC-LB, and the ids' bytes behind their first one.
func TestSamples(t *testing.T) {
	for _, x := range []struct{ key, text, mixed string }{
		{"fdf726a9893ec05c0632d3956680baf0", "31441a" + "9c69c275", "67947d29be054a"},
		{key, "ed793a" + "ee080dbf", "20b1d07b359d3c"},
		{key, "ed793a51d49b8f5fab65" + "ee080dbf48", "cc381bc74cb4fbad2823a3d1f8fed2"},
		{key, "ed793a51d49b8f5fab" + "ee080dbf48c0d1e55d", "5779c9cc86beb3a3a4a3ca96fce4bfe0cdbc"},
	} {
		asks{t, made(t, raw(t, x.key))}.mixes(raw(t, x.text), raw(t, x.mixed))
	}
}

// P15.1: a pass changes one half, by the other one's block.
func TestPassByHand(t *testing.T) {
	a, left, right := start(t), raw(t, "1230"), raw(t, "0456")
	s, _ := a.c.Encrypt(raw(t, "1230000000000000000000000000"+"0301"))
	a.pass(left, right, 3, 1, left, []byte{(0x04 ^ s[0]) % 16, 0x56 ^ s[1]})
	s, _ = a.c.Encrypt(raw(t, "0456000000000000000000000000"+"0302"))
	a.pass(left, right, 3, 2, []byte{0x12 ^ s[0], (0x30 ^ s[1]) / 16 * 16}, right)
	s, _ = a.c.Encrypt(raw(t, "1230000000000000000000000000"+"04ff"))
	a.pass(left, right, 4, 255, left, []byte{0x04 ^ s[0], 0x56 ^ s[1]})
	s, _ = a.c.Encrypt(raw(t, "0456000000000000000000000000"+"0400"))
	a.pass(left, right, 4, 0, []byte{0x12 ^ s[0], 0x30 ^ s[1]}, right)
}

// P15.1: halves of each size, each pass, against the chapter's words.
func TestPass(t *testing.T) {
	a, other := start(t), goes(t, raw(t, key))
	for n := 2; n <= 28; n++ {
		for i, text := range texts(n) {
			left, right, e := halves.Cut(text)
			if e != api.OK {
				t.Fatal(n, e)
			}
			for pass := range 256 {
				if i > 0 && pass > 5 && pass < 254 {
					continue
				}
				l, r := behind(t, other, left, right, n, pass)
				a.pass(left, right, n, pass, l, r)
				a.pass(l, r, n, pass, left, right) // a second time takes it back
			}
		}
	}
}

// P15.1, P15.3: halves need not be valid: the one that is changed is trimmed, the other one stays as it is, and its bits count.
func TestPassOfInvalid(t *testing.T) {
	a, other := start(t), goes(t, raw(t, key))
	for n := 2; n <= 28; n++ {
		size := (n + 1) / 2
		for x := range 256 {
			left, right := mixed(size, uint64(x)), mixed(size, uint64(x+1))
			left[size-1], right[0] = byte(x), byte(255-x)
			for _, pass := range []int{0, 1, 2, 3, 4, 254, 255} {
				l, r := behind(t, other, left, right, n, pass)
				a.pass(left, right, n, pass, l, r)
			}
		}
		full := bytes.Repeat([]byte{0xff}, size)
		for _, pass := range []int{1, 2} {
			l, r := behind(t, other, full, full, n, pass)
			a.pass(full, full, n, pass, l, r) // one slice as both halves
			valid, _ := halves.Trim(full, n, pass == 1)
			if x, y := behind(t, other, valid, valid, n, pass); n%2 == 1 && bytes.Equal(x, l) && bytes.Equal(y, r) {
				t.Error(n, pass, "the bits do not count")
			}
		}
	}
}

// P15.1: lengths out of bounds, and halves of other sizes: each alone, and both.
func TestPassRefused(t *testing.T) {
	a := start(t)
	for _, n := range lengths() {
		size := halves.Size(n)
		for _, l := range []int{0, 1, 2, 3, 7, 13, 14, 15, 16, size % 1000, (size + 1) % 1000} {
			for _, r := range []int{0, 1, 2, 3, 7, 13, 14, 15, 16, size % 1000, (size + 1) % 1000} {
				left, right := mixed(l, 1), mixed(r, 2)
				for _, pass := range []int{0, 1, 2, 3, 4, 254, 255} {
					if outside(n) || l != size || r != size {
						a.noPass(left, right, n, pass)
					} else if _, _, e := feist.Pass(a.c, left, right, n, pass); e != api.OK {
						t.Fatal(l, r, n, pass, e)
					}
				}
				a.noPass(left, right, n, 256)
			}
		}
		a.noPass(nil, nil, n, 1)
		a.noPass(nil, nil, n, 2)
		a.noPass([]byte{}, []byte{}, n, 1)
	}
	for _, pass := range []int{1, 2} {
		a.noPass(make([]byte, 258), make([]byte, 258), 4, pass)
		a.noPass(make([]byte, 258), make([]byte, 258), 516, pass)
		a.noPass([]byte{1}, []byte{2, 3}, 2, pass)
		a.noPass([]byte{1, 2}, []byte{3}, 2, pass)
		a.noPass([]byte{1}, []byte{2, 3}, 3, pass)
		a.noPass([]byte{1, 2}, []byte{3}, 3, pass)
		a.noPass(mixed(20, 1)[:1], mixed(20, 2)[:1], 4, pass) // what lies behind the length does not count
	}
}

// P15.1: numbers that are none of a pass.
func TestPassBeyond(t *testing.T) {
	a := start(t)
	for n := 2; n <= 28; n++ {
		left, right := mixed((n+1)/2, 1), mixed((n+1)/2, 2)
		for _, pass := range passesBeyond {
			a.noPass(left, right, n, pass)
		}
	}
}

// orders are rows of passes: none, single ones, the two of the chapter, repeated ones, those at the edges, all.
func orders() [][]int {
	all := make([]int, 256)
	for pass := range all {
		all[pass] = pass
	}
	return [][]int{nil, {}, {0}, {1}, {2}, {3}, {4}, {255}, {1, 2}, {2, 1}, {1, 2, 3, 4}, {4, 3, 2, 1}, {1, 1}, {2, 2, 2}, {1, 3}, {3, 1}, {2, 4, 6}, {7, 200, 3}, {254, 255, 0, 1}, {1, 2, 3, 4, 4, 3, 2, 1}, {5, 6, 7, 8, 9}, all}
}

// P15.2: texts of each length behind passes, against the chapter's words.
func TestPasses(t *testing.T) {
	a, other := start(t), goes(t, raw(t, key))
	for n := 2; n <= 28; n++ {
		for _, text := range texts(n) {
			for _, order := range orders() {
				a.passes(text, run(t, other, text, order...), order...)
			}
		}
	}
	a.passes([]byte{1, 2, 3, 4, 5}, []byte{1, 2, 3, 4, 5})
}

// P15.2: each pass alone, and behind each other one.
func TestEveryPass(t *testing.T) {
	a, other := start(t), goes(t, raw(t, key))
	for pass := range 256 {
		for _, n := range []int{2, 3, 27, 28} {
			text := mixed(n, uint64(pass))
			a.passes(text, run(t, other, text, pass), pass)
			a.passes(text, run(t, other, text, pass, 255-pass), pass, 255-pass)
			a.passes(text, text, pass, pass)
		}
	}
}

// P15.2, P15.3: Passes is Cut, Pass by Pass, and Join; the reversed order takes it back.
func TestPassByPass(t *testing.T) {
	a := start(t)
	for n := 2; n <= 28; n++ {
		text := mixed(n, uint64(n))
		for _, order := range orders() {
			left, right, _ := halves.Cut(text)
			for _, pass := range order {
				left, right, _ = feist.Pass(a.c, left, right, n, pass)
			}
			want, e := halves.Join(left, right, n)
			if e != api.OK {
				t.Fatal(n, order, e)
			}
			a.passes(text, want, order...)
			back := slices.Clone(order)
			slices.Reverse(back)
			a.passes(want, text, back...)
		}
	}
}

// P15.2: texts of other lengths.
func TestTextsRefused(t *testing.T) {
	a := start(t)
	list := []int{256 + 2, 256 + 28, 65535, 65536 + 3, 1 << 24}
	for n := range 300 {
		list = append(list, n)
	}
	for _, n := range list {
		text := make([]byte, n)
		if !outside(n) {
			a.mixes(text, run(t, goes(t, raw(t, key)), text, 1, 2, 3, 4))
			continue
		}
		a.noMix(text)
		a.noPasses(text)
		a.noPasses(text, 1)
		a.noPasses(text, 1, 2, 3, 4)
		a.noPasses(text, 256)
	}
	a.noMix(nil)
	a.noPasses(nil)
	a.noPasses(nil, 1, 2)
	a.noMix(mixed(20, 1)[:1]) // what lies behind the length does not count
}

// P15.2: a number that is none of a pass, at each place of a row: nothing is encrypted, not for the passes before it either.
func TestOrdersRefused(t *testing.T) {
	a := start(t)
	for n := 2; n <= 28; n++ {
		text := mixed(n, 1)
		for _, pass := range passesBeyond {
			a.noPasses(text, pass)
			a.noPasses(text, pass, pass)
			for at := range 5 {
				a.noPasses(text, slices.Insert([]int{1, 2, 3, 4}, at, pass)...)
			}
			a.noPasses(text, append(make([]int, 300), pass)...)
		}
		a.noPasses(text, -1, 256)
	}
}

// P15.2: Mix and Unmix are their passes, for other keys too.
func TestMix(t *testing.T) {
	for seed := range uint64(8) {
		k := mixed(16, seed)
		a, other := asks{t, made(t, k)}, goes(t, k)
		for n := 2; n <= 28; n++ {
			for _, text := range texts(n) {
				want := run(t, other, text, 1, 2, 3, 4)
				a.mixes(text, want)
				a.passes(text, want, 1, 2, 3, 4)
				b, e := feist.Unmix(a.c, text)
				if e != api.OK || !bytes.Equal(b, run(t, other, text, 4, 3, 2, 1)) {
					t.Fatalf("%x: %x %d", text, b, e)
				}
				a.passes(text, b, 4, 3, 2, 1)
				a.mixes(b, text)
			}
		}
	}
}

// P15.3: texts of two bytes from all over have mixes of their own, and both functions invert each other.
func TestTwoBytes(t *testing.T) {
	a := start(t)
	mixes := map[string]int{}
	for x := 0; x < 1<<16; x += 7 {
		text := []byte{byte(x >> 8), byte(x)}
		b, e := feist.Mix(a.c, text)
		if e != api.OK || len(b) != 2 || mixes[string(b)] > 0 {
			t.Fatalf("%x: %x %d", text, b, e)
		}
		a.mixes(text, b)
		mixes[string(b)]++
	}
}

// P15.3: each byte of a text, with many values, comes back.
func TestEveryByte(t *testing.T) {
	a, other := start(t), goes(t, raw(t, key))
	for n := 2; n <= 28; n++ {
		for at := range n {
			for x := 0; x < 256; x += 5 {
				text := mixed(n, uint64(n))
				text[at] = byte(x)
				a.mixes(text, run(t, other, text, 1, 2, 3, 4))
			}
		}
	}
}

// P15.3: arguments stay as they are, also behind their length.
func TestArgumentsStay(t *testing.T) {
	a := start(t)
	for n := range 32 {
		text, wholeText := roomy(bytes.Repeat([]byte{0xff}, n))
		left, wholeLeft := roomy(bytes.Repeat([]byte{0xff}, (n+1)/2))
		right, wholeRight := roomy(bytes.Repeat([]byte{0xff}, (n+1)/2))
		want := [][]byte{slices.Clone(wholeText), slices.Clone(wholeLeft), slices.Clone(wholeRight)}
		wholeOrder := []int{4, 1, 3, 2, 256, 9}
		feist.Mix(a.c, text)
		feist.Unmix(a.c, text)
		for size := range wholeOrder {
			feist.Passes(a.c, text, wholeOrder[:size]...)
		}
		for _, length := range []int{n - 1, n, n + 1} {
			for _, pass := range []int{-1, 0, 1, 2, 255, 256} {
				feist.Pass(a.c, left, right, length, pass)
				feist.Pass(a.c, left[:0], right, length, pass)
				feist.Pass(a.c, left, right[:0], length, pass)
			}
		}
		for i, whole := range [][]byte{wholeText, wholeLeft, wholeRight} {
			if !bytes.Equal(whole, want[i]) {
				t.Errorf("%d, %d: %x, not %x", n, i, whole, want[i])
			}
		}
		if !slices.Equal(wholeOrder, []int{4, 1, 3, 2, 256, 9}) {
			t.Error(n, wholeOrder)
		}
	}
}

// P15.3: results share no memory: not with an argument, nor with each other or an earlier result, to the end of their capacity.
func TestResultsAreNew(t *testing.T) {
	c := made(t, raw(t, key))
	for n := 2; n <= 28; n++ {
		text := mixed(n, 1)
		left, right, _ := halves.Cut(text)
		texts := [][]byte{text, left, right}
		want := [][]byte{slices.Clone(text), slices.Clone(left), slices.Clone(right)}
		alone := func(b []byte, _ api.Errno) ([]byte, []byte) { return b, nil }
		pass := func(l, r []byte, k int) ([]byte, []byte) { x, y, _ := feist.Pass(c, l, r, n, k); return x, y }
		turned := func(x, y []byte) ([]byte, []byte) { return y, x }
		for name, call := range map[string]func() ([]byte, []byte){
			"Mix":            func() ([]byte, []byte) { return alone(feist.Mix(c, text)) },
			"Unmix":          func() ([]byte, []byte) { return alone(feist.Unmix(c, text)) },
			"Passes":         func() ([]byte, []byte) { return alone(feist.Passes(c, text, 3)) },
			"Passes, none":   func() ([]byte, []byte) { return alone(feist.Passes(c, text)) },
			"Pass 1":         func() ([]byte, []byte) { return pass(left, right, 1) },
			"Pass 1, right":  func() ([]byte, []byte) { return turned(pass(left, right, 1)) },
			"Pass 2":         func() ([]byte, []byte) { return pass(left, right, 2) },
			"Pass 2, right":  func() ([]byte, []byte) { return turned(pass(left, right, 2)) },
			"Pass, one half": func() ([]byte, []byte) { return pass(left, left, 1) },
		} {
			first, beside := call()
			wantFirst, wantBeside := slices.Clone(first), slices.Clone(beside)
			again, _ := call()
			spoil(first)
			third, _ := call()
			if !bytes.Equal(beside, wantBeside) || !bytes.Equal(again, wantFirst) || !bytes.Equal(third, wantFirst) {
				t.Errorf("%s %d: %x, not %x; beside it %x, not %x", name, n, third, wantFirst, beside, wantBeside)
			}
			for i := range texts {
				if !bytes.Equal(texts[i], want[i]) {
					t.Errorf("%s %d: %x, not %x", name, n, texts[i], want[i])
				}
				spoil(texts[i])
			}
			if !bytes.Equal(again, wantFirst) || !bytes.Equal(beside, wantBeside) {
				t.Errorf("%s %d: %x %x, not %x %x", name, n, again, beside, wantFirst, wantBeside)
			}
			for i := range texts {
				copy(texts[i], want[i])
			}
		}
	}
}

// P15.1, P15.2, P15.3: calls of many goroutines with one cipher do no harm to each other, and all blocks are counted.
func TestAtOnce(t *testing.T) {
	c, other := made(t, raw(t, key)), goes(t, raw(t, key))
	text := mixed(27, 1)
	left, right, _ := halves.Cut(text)
	mix, few := run(t, other, text, 1, 2, 3, 4), run(t, other, text, 9, 8)
	l, r := behind(t, other, left, right, 27, 2)
	var all sync.WaitGroup
	for range 8 {
		all.Go(func() {
			for range 100 {
				if b, e := feist.Mix(c, text); e != api.OK || !bytes.Equal(b, mix) {
					t.Errorf("%x %d", b, e)
				}
				if b, e := feist.Unmix(c, mix); e != api.OK || !bytes.Equal(b, text) {
					t.Errorf("%x %d", b, e)
				}
				if b, e := feist.Passes(c, text, 9, 8); e != api.OK || !bytes.Equal(b, few) {
					t.Errorf("%x %d", b, e)
				}
				if x, y, e := feist.Pass(c, left, right, 27, 2); e != api.OK || !bytes.Equal(x, l) || !bytes.Equal(y, r) {
					t.Errorf("%x %x %d", x, y, e)
				}
			}
		})
	}
	all.Wait()
	if n := c.Done(); n != 8*100*11 {
		t.Error(n)
	}
}
