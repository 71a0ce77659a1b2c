package vari_test

import (
	"bytes"
	"encoding/hex"
	"math"
	"math/big"
	"slices"
	"sync"
	"testing"

	"crossway/api"
	"crossway/vari"
)

// most is the greatest number, and beyond are some that are none.
const most = 1<<62 - 1

var beyond = []uint64{most + 1, most + 2, 1<<62 + 37, 1<<63 - 1, 1 << 63, 1<<63 + 37, 3 << 62, math.MaxUint64 - 1, math.MaxUint64}

// samples are those of RFC 9000, and each length's least and greatest, with their shortest encodings.
var samples = []struct {
	v    uint64
	want string
}{
	{37, "25"}, {15293, "7bbd"}, {494878333, "9d7f3e7d"}, {151288809941952652, "c2197c5eff14e88c"},
	{0, "00"}, {1, "01"}, {62, "3e"}, {63, "3f"},
	{64, "4040"}, {65, "4041"}, {255, "40ff"}, {256, "4100"}, {16382, "7ffe"}, {16383, "7fff"},
	{16384, "80004000"}, {65535, "8000ffff"}, {65536, "80010000"}, {1<<30 - 1, "bfffffff"},
	{1 << 30, "c000000040000000"}, {1<<32 - 1, "c0000000ffffffff"}, {1 << 32, "c000000100000000"}, {1 << 61, "e000000000000000"}, {most - 1, "fffffffffffffffe"}, {most, "ffffffffffffffff"},
}

// numbers are each power of two, what is near it, and others without a pattern of every length.
func numbers() []uint64 {
	list := []uint64{0}
	for bit := range 62 {
		p := uint64(1) << bit
		list = append(list, p, p-1, p+1, 2*p-1)
		seed := p
		for range 4 {
			seed = seed*6364136223846793005 + 1442695040888963407
			list = append(list, p|seed%p)
		}
	}
	return slices.DeleteFunc(list, func(v uint64) bool { return v > most })
}

// form is the encoding of a number with a length, or nothing, by sums of unbounded integers.
func form(v uint64, size int) []byte {
	class, ok := map[int]int64{1: 0, 2: 1, 4: 2, 8: 3}[size]
	if !ok {
		return nil
	}
	room := new(big.Int).Lsh(big.NewInt(1), uint(8*size-2))
	n := new(big.Int).SetUint64(v)
	if n.Cmp(room) >= 0 {
		return nil
	}
	n.Add(n, room.Mul(room, big.NewInt(class)))
	return n.FillBytes(make([]byte, size))
}

// shortest is the first of a number's encodings, or nothing.
func shortest(v uint64) []byte {
	for _, size := range []int{1, 2, 4, 8} {
		if b := form(v, size); b != nil {
			return b
		}
	}
	return nil
}

// P8.1: the samples, by the functions that write and the one that reads.
func TestSamples(t *testing.T) {
	for _, c := range samples {
		b, e := vari.Put(c.v)
		if hex.EncodeToString(b) != c.want || e != api.OK {
			t.Errorf("Put %d: %x %d", c.v, b, e)
		}
		if n := vari.Size(c.v); n != len(c.want)/2 {
			t.Error("Size", c.v, n)
		}
		if v, n, e := vari.Take(b); v != c.v || n != len(b) || e != api.OK {
			t.Error("Take", c.v, v, n, e)
		}
	}
}

// P8.1: Size is the length of the shortest encoding, and Put that encoding.
func TestShortest(t *testing.T) {
	for _, v := range numbers() {
		want := shortest(v)
		if n := vari.Size(v); n != len(want) {
			t.Error("Size", v, n)
		}
		if b, e := vari.Put(v); !bytes.Equal(b, want) || e != api.OK {
			t.Errorf("Put %d: %x %d", v, b, e)
		}
	}
}

// P8.1: from 2^62 on there is no encoding.
func TestNoNumber(t *testing.T) {
	for _, v := range beyond {
		if n := vari.Size(v); n != 0 {
			t.Error("Size", v, n)
		}
		if b, e := vari.Put(v); len(b) != 0 || e != api.ErrRange {
			t.Errorf("Put %d: %x %d", v, b, e)
		}
		for size := -1; size <= 17; size++ {
			if b, e := vari.Wide(v, size); len(b) != 0 || e != api.ErrRange {
				t.Errorf("Wide %d %d: %x %d", v, size, b, e)
			}
		}
	}
}

// P8.1: Wide gives also those that are not the shortest, and refuses what has no room.
func TestWide(t *testing.T) {
	for _, v := range numbers() {
		for size := -1; size <= 17; size++ {
			want, err := form(v, size), api.OK
			if want == nil {
				err = api.ErrRange
			}
			if b, e := vari.Wide(v, size); !bytes.Equal(b, want) || e != err {
				t.Errorf("%d %d: %x %d, not %x %d", v, size, b, e, want, err)
			}
		}
	}
}

// P8.1: no other size has an encoding, however great, or small, or like a right one in its low bits.
func TestWideOfNoSize(t *testing.T) {
	sizes := []int{math.MinInt, math.MinInt + 1, math.MinInt + 8, -1 << 32, -1<<32 + 4, -8, -4, -2, 31, 32, 64, 256, 257, 258, 260, 264, 1<<32 + 1, 1<<32 + 8, math.MaxInt - 7, math.MaxInt}
	for _, v := range []uint64{0, 37, 64, 1 << 30, most} {
		for _, size := range sizes {
			if b, e := vari.Wide(v, size); len(b) != 0 || e != api.ErrRange {
				t.Errorf("%d %d: %x %d", v, size, b, e)
			}
		}
	}
}

// P8.1: Row is what Put gives, one behind the other, in their order.
func TestRow(t *testing.T) {
	if b, e := vari.Row(37, 15293, 0, 37); hex.EncodeToString(b) != "257bbd0025" || e != api.OK {
		t.Errorf("%x %d", b, e)
	}
	if b, e := vari.Row(494878333, most, 63, 64); hex.EncodeToString(b) != "9d7f3e7dffffffffffffffff3f4040" || e != api.OK {
		t.Errorf("%x %d", b, e)
	}
	for _, list := range [][]uint64{nil, {}} {
		if b, e := vari.Row(list...); len(b) != 0 || e != api.OK {
			t.Errorf("none: %x %d", b, e)
		}
	}
	var want []byte
	for i, v := range numbers() {
		want = append(want, shortest(v)...)
		if b, e := vari.Row(numbers()[:i+1]...); !bytes.Equal(b, want) || e != api.OK {
			t.Fatalf("%d: %x %d", i, b, e)
		}
	}
	many := slices.Repeat([]uint64{7, 300}, 50000)
	if b, e := vari.Row(many...); !bytes.Equal(b, bytes.Repeat([]byte{7, 0x41, 0x2c}, 50000)) || e != api.OK {
		t.Error(len(b), e)
	}
}

// P8.1: one that is no number is enough, wherever it stands.
func TestRowOfNoNumber(t *testing.T) {
	for _, v := range beyond {
		for at := range 5 {
			list := []uint64{0, 64, 1 << 14, 1 << 30, most}
			list[at] = v
			if b, e := vari.Row(list...); len(b) != 0 || e != api.ErrRange {
				t.Errorf("%d at %d: %x %d", v, at, b, e)
			}
		}
		if b, e := vari.Row(v); len(b) != 0 || e != api.ErrRange {
			t.Errorf("%d: %x %d", v, b, e)
		}
	}
}

// P8.2: each encoding is read, also one that is not the shortest, and whatever follows it.
func TestTake(t *testing.T) {
	for _, v := range numbers() {
		for _, size := range []int{1, 2, 4, 8} {
			b := form(v, size)
			if b == nil {
				continue
			}
			for _, behind := range [][]byte{nil, {0}, {255}, bytes.Repeat([]byte{0xc0}, 20), make([]byte, 70000)} {
				if got, n, e := vari.Take(append(slices.Clone(b), behind...)); got != v || n != size || e != api.OK {
					t.Errorf("%x: %d %d %d", b, got, n, e)
				}
			}
		}
	}
}

// P8.2: every first byte, alone and with zeros, or ones, behind it.
func TestTakeFirstBytes(t *testing.T) {
	for first := range 256 {
		size := []int{1, 2, 4, 8}[first/64]
		for _, fill := range []byte{0, 255} {
			b := append([]byte{byte(first)}, bytes.Repeat([]byte{fill}, 7)...)
			want := uint64(first % 64)
			for range size - 1 {
				want = want*256 + uint64(fill)
			}
			for n := range 9 {
				v, took, e := vari.Take(b[:n])
				if n < size && (v != 0 || took != 0 || e != api.ErrEnd) || n >= size && (v != want || took != size || e != api.OK) {
					t.Errorf("%x: %d %d %d", b[:n], v, took, e)
				}
			}
		}
	}
}

// P8.2: what ends too early is refused, also if the bytes behind its length would do.
func TestTakeEnds(t *testing.T) {
	for _, b := range [][]byte{nil, {}, make([]byte, 0, 8)} {
		if v, n, e := vari.Take(b); v != 0 || n != 0 || e != api.ErrEnd {
			t.Error(b, v, n, e)
		}
	}
	for _, v := range numbers() {
		b := shortest(v)
		for n := range b {
			for _, cut := range [][]byte{b[:n], b[:n:n]} {
				if v, took, e := vari.Take(cut); v != 0 || took != 0 || e != api.ErrEnd {
					t.Errorf("%x of %x: %d %d %d", cut, b, v, took, e)
				}
			}
		}
	}
}

// P8.1, P8.2: what Row writes is read again, number by number.
func TestTakeRow(t *testing.T) {
	b, _ := vari.Row(numbers()...)
	for i, v := range numbers() {
		got, n, e := vari.Take(b)
		if got != v || n != vari.Size(v) || e != api.OK {
			t.Fatal(i, v, got, n, e)
		}
		b = b[n:]
	}
	if _, _, e := vari.Take(b); len(b) != 0 || e != api.ErrEnd {
		t.Error(b, e)
	}
}

// P8.2: arguments stay as they are, also behind their length.
func TestArgumentsStay(t *testing.T) {
	list := []uint64{37, 15293, 0, most, 1 << 62, 5}
	vari.Row(list[:4]...)
	vari.Row(list...)
	if !slices.Equal(list, []uint64{37, 15293, 0, most, 1 << 62, 5}) {
		t.Error(list)
	}
	for _, s := range []string{"25010203", "7bbd0102", "c2197c5eff14e88c0102"} {
		b, _ := hex.DecodeString(s)
		for n := range b {
			vari.Take(b[:n])
		}
		if hex.EncodeToString(b) != s {
			t.Errorf("%s: %x", s, b)
		}
	}
}

// P8.2: results are new memory, to the end of their capacity, for every call.
func TestResultsAreNew(t *testing.T) {
	calls := map[string]func() ([]byte, api.Errno){
		"Row":       func() ([]byte, api.Errno) { return vari.Row(37, 15293, 0, most) },
		"Row of 1":  func() ([]byte, api.Errno) { return vari.Row(37) },
		"Row of 20": func() ([]byte, api.Errno) { return vari.Row(slices.Repeat([]uint64{most}, 20)...) },
	}
	for _, v := range []uint64{0, 37, 64, 15293, 494878333, most} {
		calls["Put "+hex.EncodeToString(shortest(v))] = func() ([]byte, api.Errno) { return vari.Put(v) }
		calls["Wide "+hex.EncodeToString(shortest(v))] = func() ([]byte, api.Errno) { return vari.Wide(v, 8) }
	}
	for name, call := range calls {
		first, _ := call()
		second, _ := call()
		want := slices.Clone(first)
		for i := range first[:cap(first)] {
			first[:cap(first)][i] ^= 0xa5
		}
		third, e := call()
		if !bytes.Equal(second, want) || !bytes.Equal(third, want) || e != api.OK {
			t.Errorf("%s: %x, then %x and %x", name, want, second, third)
		}
	}
}

// P8.2: calls of many goroutines do no harm to each other.
func TestAtOnce(t *testing.T) {
	list := numbers()
	want, _ := vari.Row(list...)
	var all sync.WaitGroup
	for range 8 {
		all.Go(func() {
			for range 20 {
				if b, e := vari.Row(list...); !bytes.Equal(b, want) || e != api.OK {
					t.Errorf("%x %d", b, e)
				}
			}
		})
	}
	all.Wait()
}
