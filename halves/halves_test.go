package halves_test

import (
	"bytes"
	"encoding/hex"
	"math"
	"slices"
	"strings"
	"sync"
	"testing"

	"crossway/api"
	"crossway/halves"
)

func raw(t *testing.T, s string) []byte {
	t.Helper()
	b, err := hex.DecodeString(s)
	if err != nil {
		t.Fatal(s, err)
	}
	return b
}

// mixed are n bytes without a pattern; others for another seed.
func mixed(n int, seed uint64) []byte {
	b := make([]byte, n)
	for i := range b {
		seed = seed*6364136223846793005 + 1442695040888963407
		b[i] = byte(seed >> 40)
	}
	return b
}

// spoil writes over a slice, its spare capacity too. It counts up, so that a second time doesn't undo the first.
func spoil(b []byte) {
	b = b[:cap(b)]
	for i := range b {
		b[i]++
	}
}

// roomy is a copy of b within a greater piece of memory, so that a write behind its end shows.
func roomy(b []byte) (arg, whole []byte) {
	whole = append(slices.Clone(b), 0xa5, 0xa5, 0xa5, 0xa5)
	return whole[:len(b)], whole
}

// split are the halves that the chapter's words give, by digits of four bits: of a text's 2n digits each side has n, and a zero if n is odd.
func split(t *testing.T, b []byte) (left, right []byte) {
	t.Helper()
	digits, zero := hex.EncodeToString(b), strings.Repeat("0", len(b)%2)
	return raw(t, digits[:len(b)]+zero), raw(t, zero+digits[len(b):])
}

// lengths are some that are in bounds, or would be if only their low bytes counted, and all those about the bounds.
func lengths() []int {
	list := []int{math.MinInt, math.MinInt + 1, math.MinInt + 4, math.MinInt32, -256, -252, 256, 260, 284, 512, 65536, 65540, 1<<32 + 4, math.MaxInt32, math.MaxInt - 1, math.MaxInt}
	for n := -40; n <= 70; n++ {
		list = append(list, n)
	}
	return list
}

// outside: may no text have this length?
func outside(n int) bool { return n < 2 || n > 28 }

// cuts asks whether Cut has these results.
func cuts(t *testing.T, b, left, right []byte, err api.Errno) {
	t.Helper()
	if l, r, e := halves.Cut(b); !bytes.Equal(l, left) || !bytes.Equal(r, right) || e != err {
		t.Fatalf("%x: %x %x %d, not %x %x %d", b, l, r, e, left, right, err)
	}
}

// joins asks whether Join has these results.
func joins(t *testing.T, left, right []byte, n int, want []byte, err api.Errno) {
	t.Helper()
	if b, e := halves.Join(left, right, n); !bytes.Equal(b, want) || e != err {
		t.Fatalf("%x %x %d: %x %d, not %x %d", left, right, n, b, e, want, err)
	}
}

// trims asks whether Trim has these results.
func trims(t *testing.T, half []byte, n int, left bool, want []byte, err api.Errno) {
	t.Helper()
	if b, e := halves.Trim(half, n, left); !bytes.Equal(b, want) || e != err {
		t.Fatalf("%x %d %t: %x %d, not %x %d", half, n, left, b, e, want, err)
	}
}

// blocks asks whether Block has these results.
func blocks(t *testing.T, half []byte, n, pass int, want []byte, err api.Errno) {
	t.Helper()
	if b, e := halves.Block(half, n, pass); !bytes.Equal(b, want) || e != err {
		t.Fatalf("%x %d %d: %x %d, not %x %d", half, n, pass, b, e, want, err)
	}
}

// P14.1, P14.2: the chapter's examples.
func TestExamples(t *testing.T) {
	cuts(t, raw(t, "123456"), raw(t, "1230"), raw(t, "0456"), api.OK)
	blocks(t, raw(t, "1230"), 3, 1, raw(t, "12300000000000000000000000000301"), api.OK)
	joins(t, raw(t, "1230"), raw(t, "0456"), 3, raw(t, "123456"), api.OK)
	trims(t, raw(t, "123f"), 3, true, raw(t, "1230"), api.OK)
	trims(t, raw(t, "f456"), 3, false, raw(t, "0456"), api.OK)
}

// P14.1
func TestSize(t *testing.T) {
	for n, want := range map[int]int{
		math.MinInt: 0, math.MinInt + 1: 0, math.MinInt32: 0, -3: 0, -2: 0, -1: 0, 0: 0, 1: 1, 2: 1, 3: 2, 4: 2, 5: 3,
		27: 14, 28: 14, 29: 15, 30: 15, 255: 128, 256: 128, 257: 129, 65535: 32768, // also of lengths that no text has
		math.MaxInt32: 1 << 30, 1 << 32: 1 << 31, math.MaxInt - 1: math.MaxInt / 2, math.MaxInt: 1 << 62,
	} {
		if k := halves.Size(n); k != want {
			t.Error(n, k, want)
		}
	}
	for n := 1; n < 70000; n++ {
		if k := halves.Size(n); 2*k != n && 2*k != n+1 {
			t.Fatal(n, k)
		}
		if k := halves.Size(-n); k != 0 {
			t.Fatal(-n, k)
		}
	}
}

// P14.1, P14.3: texts of each length, and of none.
func TestCut(t *testing.T) {
	cuts(t, nil, nil, nil, api.ErrRange)
	cuts(t, []byte{}, nil, nil, api.ErrRange)
	for n := range 300 {
		for _, b := range [][]byte{mixed(n, 1), mixed(n, 2), make([]byte, n), bytes.Repeat([]byte{0xff}, n)} {
			if outside(n) {
				cuts(t, b, nil, nil, api.ErrRange)
				continue
			}
			left, right := split(t, b)
			cuts(t, b, left, right, api.OK)
			joins(t, left, right, n, b, api.OK)
			trims(t, left, n, true, left, api.OK)
			trims(t, right, n, false, right, api.OK)
		}
	}
	for _, n := range []int{256 + 2, 256 + 28, 65535, 65536 + 3, 1 << 24} {
		cuts(t, make([]byte, n), nil, nil, api.ErrRange)
	}
	cuts(t, mixed(40, 1)[:1], nil, nil, api.ErrRange) // what lies behind the length does not count
	cuts(t, raw(t, "12345678")[:3], raw(t, "1230"), raw(t, "0456"), api.OK)
}

// P14.1, P14.3: each byte of a text, with each value, goes to its place and back.
func TestEveryByte(t *testing.T) {
	for n := 2; n <= 28; n++ {
		for at := range n {
			for x := range 256 {
				b := mixed(n, uint64(n))
				b[at] = byte(x)
				left, right := split(t, b)
				cuts(t, b, left, right, api.OK)
				joins(t, left, right, n, b, api.OK)
			}
		}
	}
}

// P14.1: halves whose four bits are not 0 are refused if the length is odd, each of both sides.
func TestJoinOfInvalid(t *testing.T) {
	for n := 2; n <= 28; n++ {
		size := (n + 1) / 2
		for x := range 256 {
			for _, y := range []int{0x00, 0x0f, 0x10, 0x01, 0xf0, 0xff, x, 255 - x} {
				left, right := mixed(size, 1), mixed(size, 2)
				left[size-1], right[0] = byte(x), byte(y)
				switch {
				case n%2 == 0:
					joins(t, left, right, n, slices.Concat(left, right), api.OK)
				case x%16 != 0 || y/16 != 0:
					joins(t, left, right, n, nil, api.ErrForm)
				default:
					joins(t, left, right, n, slices.Concat(left[:size-1], []byte{byte(x | y)}, right[1:]), api.OK)
				}
			}
		}
	}
}

// P14.1: of an odd text all other bits of a half may be 1.
func TestJoinOfFullHalves(t *testing.T) {
	for n := 3; n <= 27; n += 2 {
		full := bytes.Repeat([]byte{0xff}, n)
		left, right := split(t, full)
		joins(t, left, right, n, full, api.OK)
		for at := range left {
			for bit := range 8 {
				l, r := slices.Clone(left), slices.Clone(right)
				l[at] ^= 1 << bit
				r[at] ^= 1 << bit
				wrongL, wrongR := at == len(l)-1 && bit < 4, at == 0 && bit > 3
				if wrongL {
					joins(t, l, right, n, nil, api.ErrForm)
				} else {
					want := slices.Clone(full)
					want[at] ^= 1 << bit
					joins(t, l, right, n, want, api.OK)
				}
				if wrongR {
					joins(t, left, r, n, nil, api.ErrForm)
				} else {
					want := slices.Clone(full)
					want[n-len(r)+at] ^= 1 << bit
					joins(t, left, r, n, want, api.OK)
				}
			}
		}
	}
}

// P14.1: lengths out of bounds, and halves of other sizes; these errors come before that of a form.
func TestJoinRefused(t *testing.T) {
	for _, n := range lengths() {
		for _, l := range []int{0, 1, 2, 3, 7, 13, 14, 15, 16, halves.Size(n) % 1000, (halves.Size(n) + 1) % 1000} {
			for _, r := range []int{0, 1, 2, 3, 7, 13, 14, 15, 16, halves.Size(n) % 1000, (halves.Size(n) + 1) % 1000} {
				size, left, right := halves.Size(n), bytes.Repeat([]byte{0xff}, l), bytes.Repeat([]byte{0xff}, r)
				if outside(n) || l != size || r != size {
					joins(t, left, right, n, nil, api.ErrRange)
					joins(t, make([]byte, l), make([]byte, r), n, nil, api.ErrRange)
					continue
				}
				joins(t, make([]byte, l), make([]byte, r), n, make([]byte, n), api.OK)
			}
		}
		joins(t, nil, nil, n, nil, api.ErrRange)
		joins(t, []byte{}, []byte{}, n, nil, api.ErrRange)
	}
	joins(t, make([]byte, 256+2), make([]byte, 256+2), 4, nil, api.ErrRange)
	joins(t, make([]byte, 258), make([]byte, 258), 516, nil, api.ErrRange)
	joins(t, []byte{1}, []byte{2, 3}, 3, nil, api.ErrRange)
	joins(t, []byte{1, 2}, []byte{3}, 3, nil, api.ErrRange)
}

// P14.2: bytes of each size, with each value on their edge.
func TestTrim(t *testing.T) {
	for n := 2; n <= 28; n++ {
		size := (n + 1) / 2
		for x := range 256 {
			b := mixed(size, uint64(n))
			b[0], b[size-1] = byte(x), byte(255-x)
			if size == 1 {
				b[0] = byte(x)
			}
			left, right := slices.Clone(b), slices.Clone(b)
			if n%2 == 1 {
				left[size-1] -= left[size-1] % 16
				right[0] %= 16
			}
			trims(t, b, n, true, left, api.OK)
			trims(t, b, n, false, right, api.OK)
			trims(t, left, n, true, left, api.OK) // a valid half stays as it is
			trims(t, right, n, false, right, api.OK)
			if _, e := halves.Join(left, right, n); e != api.OK {
				t.Fatalf("%x %x %d: %d", left, right, n, e)
			}
		}
	}
}

// P14.2: lengths out of bounds, and bytes of other sizes.
func TestTrimRefused(t *testing.T) {
	for _, n := range lengths() {
		for k := range 40 {
			b := mixed(k, 1)
			for _, left := range []bool{true, false} {
				if outside(n) || k != halves.Size(n) {
					trims(t, b, n, left, nil, api.ErrRange)
				} else if _, e := halves.Trim(b, n, left); e != api.OK {
					t.Fatal(n, k, left, e)
				}
			}
		}
		trims(t, nil, n, true, nil, api.ErrRange)
		trims(t, nil, n, false, nil, api.ErrRange)
	}
	trims(t, make([]byte, 258), 4, true, nil, api.ErrRange)
	trims(t, make([]byte, 258), 516, false, nil, api.ErrRange)
}

// P14.2: blocks of halves of each size and of each pass; the bytes are taken as they are, be they a valid half or not.
func TestBlock(t *testing.T) {
	for n := 2; n <= 28; n++ {
		size := (n + 1) / 2
		for pass := range 256 {
			for _, b := range [][]byte{mixed(size, uint64(pass)), make([]byte, size), bytes.Repeat([]byte{0xff}, size)} {
				blocks(t, b, n, pass, slices.Concat(b, make([]byte, 14-size), []byte{byte(n), byte(pass)}), api.OK)
			}
		}
	}
}

// P14.2: lengths and passes out of bounds, and halves of other sizes.
func TestBlockRefused(t *testing.T) {
	passes := []int{math.MinInt, math.MinInt32, -257, -256, -255, -1, 256, 257, 511, 512, 65536, 1 << 32, math.MaxInt32, math.MaxInt}
	for _, n := range lengths() {
		for k := range 40 {
			b := mixed(k, 1)
			for _, pass := range []int{0, 1, 4, 254, 255} {
				if outside(n) || k != halves.Size(n) {
					blocks(t, b, n, pass, nil, api.ErrRange)
				} else if _, e := halves.Block(b, n, pass); e != api.OK {
					t.Fatal(n, k, pass, e)
				}
			}
			for _, pass := range passes {
				blocks(t, b, n, pass, nil, api.ErrRange)
			}
		}
		blocks(t, nil, n, 1, nil, api.ErrRange)
	}
	blocks(t, make([]byte, 258), 4, 1, nil, api.ErrRange)
	blocks(t, make([]byte, 258), 516, 1, nil, api.ErrRange)
}

// P14.3: different texts have different halves, and both halves of one tell it: all texts of two bytes, and many of three.
func TestJoinInvertsCut(t *testing.T) {
	for x := range 256 {
		for y := range 256 {
			for _, b := range [][]byte{{byte(x), byte(y)}, {byte(x), byte(y), byte(x ^ y)}, {7, byte(x), byte(y), 0, byte(y - x)}} {
				left, right, e := halves.Cut(b)
				if e != api.OK {
					t.Fatal(b, e)
				}
				joins(t, left, right, len(b), b, api.OK)
			}
		}
	}
}

// P14.3: arguments stay as they are, also behind their length.
func TestArgumentsStay(t *testing.T) {
	for n := range 32 {
		text, wholeText := roomy(bytes.Repeat([]byte{0xff}, n))
		left, wholeLeft := roomy(mixed((n+1)/2, 1))
		right, wholeRight := roomy(mixed((n+1)/2, 2))
		want := [][]byte{slices.Clone(wholeText), slices.Clone(wholeLeft), slices.Clone(wholeRight)}
		halves.Cut(text)
		for _, length := range []int{n - 1, n, n + 1} {
			halves.Join(left, right, length)
			halves.Join(left[:0], right, length)
			for _, half := range [][]byte{text, left, right} {
				halves.Trim(half, length, true)
				halves.Trim(half, length, false)
				halves.Block(half, length, 1)
				halves.Block(half, length, 256)
			}
		}
		if n%2 == 1 { // Join again, with halves that are valid
			left[len(left)-1] &= 0xf0
			right[0] &= 0x0f
			want[1][len(left)-1] &= 0xf0
			want[2][0] &= 0x0f
			halves.Join(left, right, n)
		}
		for i, whole := range [][]byte{wholeText, wholeLeft, wholeRight} {
			if !bytes.Equal(whole, want[i]) {
				t.Errorf("%d, %d: %x, not %x", n, i, whole, want[i])
			}
		}
	}
}

// P14.3: results share no memory: not with an argument, nor with each other or an earlier result, to the end of their capacity.
func TestResultsAreNew(t *testing.T) {
	for n := 2; n <= 28; n++ {
		text := mixed(n, 1)
		left, right := split(t, text)
		for name, call := range map[string]func() ([]byte, []byte){
			"Cut":        func() ([]byte, []byte) { l, r, _ := halves.Cut(text); return l, r },
			"Cut, right": func() ([]byte, []byte) { l, r, _ := halves.Cut(text); return r, l },
			"Join":       func() ([]byte, []byte) { b, _ := halves.Join(left, right, n); return b, nil },
			"Trim left":  func() ([]byte, []byte) { b, _ := halves.Trim(left, n, true); return b, nil },
			"Trim right": func() ([]byte, []byte) { b, _ := halves.Trim(right, n, false); return b, nil },
			"Block":      func() ([]byte, []byte) { b, _ := halves.Block(left, n, 1); return b, nil },
		} {
			first, beside := call()
			want, wantBeside := slices.Clone(first), slices.Clone(beside)
			again, _ := call()
			spoil(first)
			third, _ := call()
			if !bytes.Equal(beside, wantBeside) || !bytes.Equal(again, want) || !bytes.Equal(third, want) {
				t.Errorf("%s %d: %x, not %x; beside it %x, not %x", name, n, third, want, beside, wantBeside)
			}
			l, r := split(t, mixed(n, 1))
			if !bytes.Equal(text, mixed(n, 1)) || !bytes.Equal(left, l) || !bytes.Equal(right, r) {
				t.Errorf("%s %d: %x %x %x", name, n, text, left, right)
			}
			spoil(text)
			spoil(left)
			spoil(right)
			if !bytes.Equal(again, want) || !bytes.Equal(beside, wantBeside) {
				t.Errorf("%s %d: %x %x, not %x %x", name, n, again, beside, want, wantBeside)
			}
			copy(text, mixed(n, 1))
			copy(left, l)
			copy(right, r)
		}
	}
}

// P14.1: the same slice may be both halves.
func TestJoinOfOneTwice(t *testing.T) {
	for size := 1; size <= 14; size++ {
		b := mixed(size, 1)
		joins(t, b, b, 2*size, slices.Concat(b, b), api.OK)
		joins(t, make([]byte, size), make([]byte, size), 2*size, make([]byte, 2*size), api.OK)
	}
	joins(t, raw(t, "0120"), raw(t, "0120"), 3, raw(t, "012120"), api.OK)
}

// P14.1, P14.2, P14.3: calls of many goroutines do no harm to each other.
func TestAtOnce(t *testing.T) {
	text := mixed(27, 1)
	left, right := split(t, text)
	var all sync.WaitGroup
	for range 8 {
		all.Go(func() {
			for range 200 {
				if l, r, e := halves.Cut(text); e != api.OK || !bytes.Equal(l, left) || !bytes.Equal(r, right) {
					t.Errorf("%x %x %d", l, r, e)
				}
				if b, e := halves.Join(left, right, 27); e != api.OK || !bytes.Equal(b, text) {
					t.Errorf("%x %d", b, e)
				}
				if b, e := halves.Trim(text[:14], 27, true); e != api.OK || !bytes.Equal(b, left) {
					t.Errorf("%x %d", b, e)
				}
				if b, e := halves.Block(right, 27, 2); e != api.OK || !bytes.Equal(b, slices.Concat(right, []byte{27, 2})) {
					t.Errorf("%x %d", b, e)
				}
			}
		})
	}
	all.Wait()
}
