package mix_test

import (
	"bytes"
	"hash/fnv"
	"math"
	"math/big"
	"slices"
	"sync"
	"testing"

	"crossway/mix"
)

// The chapter's numbers, as its words give them.
const (
	start  = 14695981039346656037
	factor = 1099511628211
	first  = 18397679294719823053
	second = 14181476777654086739
)

// mixed are bytes without a pattern.
func mixed(n int, seed uint64) []byte {
	out := make([]byte, n)
	for i := range out {
		seed = seed*6364136223846793005 + 1442695040888963407
		out[i] = byte(seed >> 40)
	}
	return out
}

// numbers are each power of two, what is near it, and others without a pattern; each once.
func numbers() []uint64 {
	list := []uint64{0, start, factor, first, second, math.MaxUint64}
	for bit := range 64 {
		p := uint64(1) << bit
		list = append(list, p, p-1, p+1, ^p, -p)
		seed := p
		for range 8 {
			seed = seed*6364136223846793005 + 1442695040888963407
			list = append(list, seed, seed>>bit, seed<<bit)
		}
	}
	slices.Sort(list)
	return slices.Compact(list)
}

// wide is a number of 64 bits without a bound.
func wide(n uint64) *big.Int { return new(big.Int).SetUint64(n) }

// times is a product that wraps around, by unbounded integers.
func times(a, b uint64) uint64 {
	n := wide(a)
	n.Mul(n, wide(b))
	return n.Mod(n, new(big.Int).Lsh(big.NewInt(1), 64)).Uint64()
}

// fold is the chapter's fold.
func fold(n uint64, b []byte) uint64 {
	for _, x := range b {
		n = times(n^uint64(x), factor)
	}
	return n
}

// near is a number's exclusive or with itself / 2^33.
func near(n uint64) uint64 {
	part := new(big.Int).Div(wide(n), new(big.Int).Lsh(big.NewInt(1), 33))
	return part.Xor(part, wide(n)).Uint64()
}

// end is the chapter's finalization.
func end(n uint64) uint64 { return near(times(near(times(near(n), first)), second)) }

// whole is the chapter's mix: all that is folded, one behind the other.
func whole(seed uint64, parts [][]byte) uint64 {
	var all []byte
	for _, p := range parts {
		all = append(all, big.NewInt(int64(len(p))).FillBytes(make([]byte, 8))...)
		all = append(all, p...)
	}
	return end(fold(start^seed, all))
}

// inverse is the number whose product with an odd one is 1.
func inverse(n uint64) uint64 {
	return new(big.Int).ModInverse(wide(n), new(big.Int).Lsh(big.NewInt(1), 64)).Uint64()
}

// back is the number that has a finalization: near takes itself back, since it moves more than half of the bits away.
func back(n uint64) uint64 {
	return near(times(near(times(near(n), inverse(second))), inverse(first)))
}

// P22.1: the chapter's examples, and others that are known of both functions.
func TestExamples(t *testing.T) {
	for s, want := range map[string]uint64{
		"":       start,
		"a":      12638187200555641996,
		"b":      0xaf63df4c8601f1a5,
		"foo":    0xdcb27518fed9d577,
		"foobar": 0x85944171f73967e8,
	} {
		if n := mix.Fold(start, []byte(s)...); n != want {
			t.Error("Fold", s, n)
		}
	}
	if n := mix.Fold(start, 97); n != 12638187200555641996 {
		t.Error("Fold", n)
	}
	for n, want := range map[uint64]uint64{0: 0, 1: 0xb456bcfc34c2cb2c, 2: 0x3abf2a20650683e7, math.MaxUint64: 0x64b5720b4b825f21} {
		if g := mix.End(n); g != want {
			t.Errorf("End %d: %#x", n, g)
		}
	}
}

// P22.1: Fold of each byte, from any number.
func TestFoldOne(t *testing.T) {
	for _, from := range numbers() {
		for _, x := range []byte{0, 1, 2, 127, 128, 254, 255, byte(from), byte(from >> 20)} {
			if n := mix.Fold(from, x); n != fold(from, []byte{x}) {
				t.Error(from, x, n)
			}
		}
		if n := mix.Fold(from); n != from {
			t.Error("no bytes", from, n)
		}
		if n := mix.Fold(from, nil...); n != from {
			t.Error("nil", from, n)
		}
	}
	for x := range 256 {
		if n := mix.Fold(start, byte(x)); n != fold(start, []byte{byte(x)}) {
			t.Error(x, n)
		}
	}
}

// P22.1: Fold of bytes of any length is that of Go's own FNV-1a, and goes on wherever it is cut.
func TestFoldMany(t *testing.T) {
	for size := range 300 {
		b := mixed(size, uint64(size)+1)
		h := fnv.New64a()
		h.Write(b)
		want := h.Sum64()
		if n := mix.Fold(start, b...); n != want {
			t.Error(size, n)
		}
		cut := size * 3 / 7
		if n := mix.Fold(mix.Fold(start, b[:cut]...), b[cut:]...); n != want {
			t.Error("cut", size, n)
		}
		n := uint64(start)
		for _, x := range b {
			n = mix.Fold(n, x)
		}
		if n != want {
			t.Error("one by one", size, n)
		}
		if n := mix.Fold(uint64(size), b...); n != fold(uint64(size), b) {
			t.Error("from", size, n)
		}
	}
}

// P22.1: a fold of zeros isn't nothing, and its order counts.
func TestFoldOrder(t *testing.T) {
	if mix.Fold(start, 0) == mix.Fold(start) || mix.Fold(start, 0) == mix.Fold(start, 0, 0) {
		t.Error("zeros")
	}
	if mix.Fold(start, 1, 2) == mix.Fold(start, 2, 1) {
		t.Error("order")
	}
	if n := mix.Fold(0, 0, 0, 0); n != 0 {
		t.Error("zeros into zero", n)
	}
	if n := mix.Fold(7, 7); n != 0 {
		t.Error("a byte into its own number", n)
	}
}

// P22.1: End is the finalization of any number.
func TestEnd(t *testing.T) {
	for _, n := range numbers() {
		if g := mix.End(n); g != end(n) {
			t.Error(n, g)
		}
	}
}

// parts are rows of parts, some of which are the same bytes divided in another way.
func parts() [][][]byte {
	long := mixed(70000, 9)
	rows := [][][]byte{
		nil,
		{},
		{nil},
		{{}},
		{nil, nil},
		{{0}},
		{{0, 0, 0, 0, 0, 0, 0, 0}},
		{{7}, nil},
		{nil, {7}},
		{{7, 8}},
		{{7}, {8}},
		{{8, 7}},
		{{8}, {7}},
		{long[:255]}, {long[:256]}, {long[:257]},
		{long[:65535]}, {long[:65536]}, {long},
		{long[:256], long[256:600]},
		{long[:600]},
	}
	var row [][]byte
	for i := range 40 {
		row = append(row, mixed(i%7*i, uint64(i)))
		rows = append(rows, slices.Clone(row))
	}
	return rows
}

// P22.1: Mix is the mix of any parts with any seed.
func TestMix(t *testing.T) {
	for i, row := range parts() {
		for _, seed := range []uint64{0, 1, 5, 1 << 63, start, math.MaxUint64, uint64(i) << 30} {
			if n := mix.Mix(seed, row...); n != whole(seed, row) {
				t.Error(i, seed, n)
			}
		}
	}
	for _, seed := range numbers() {
		row := [][]byte{mixed(int(seed%40), seed), mixed(int(seed>>20%40), ^seed)}
		if n := mix.Mix(seed, row...); n != whole(seed, row) {
			t.Error(seed, n)
		}
		if n := mix.Mix(seed); n != end(start^seed) {
			t.Error("no parts", seed, n)
		}
	}
	if n := mix.Mix(start); n != 0 {
		t.Error("the seed that gives 0", n)
	}
}

// P22.1: an empty part counts, and so does where a part ends.
func TestMixParts(t *testing.T) {
	seen := map[uint64]int{}
	rows := parts()
	for i, row := range rows {
		n := mix.Mix(3, row...)
		if j, ok := seen[n]; ok && !slices.EqualFunc(rows[j], row, bytes.Equal) {
			t.Error("the same mix", i, j)
		}
		seen[n] = i
	}
	if mix.Mix(3, nil) != mix.Mix(3, []byte{}) || mix.Mix(3, nil...) != mix.Mix(3) {
		t.Error("nil")
	}
}

// P22.1: Below is the rest of a division, or 0 where there is nothing to divide by.
func TestBelow(t *testing.T) {
	mosts := []int{1, 2, 3, 5, 7, 10, 16, 64, 255, 256, 4096, 65535, 1<<31 - 1, 1 << 31, 1 << 32, 1<<62 + 1, 1 << 62, math.MaxInt - 1, math.MaxInt}
	for _, n := range append(numbers(), 17, 4) {
		for _, most := range mosts {
			want := new(big.Int).Mod(wide(n), big.NewInt(int64(most))).Int64()
			if g := mix.Below(n, most); int64(g) != want {
				t.Error(n, most, g)
			}
		}
		for _, most := range []int{0, -1, -2, -3, -64, math.MinInt + 1, math.MinInt} {
			if g := mix.Below(n, most); g != 0 {
				t.Error(n, most, g)
			}
		}
	}
	for i, c := range []struct {
		n          uint64
		most, want int
	}{
		{0, 5, 0}, {4, 5, 4}, {5, 5, 0}, {17, 5, 2}, {17, 1, 0}, {17, 0, 0}, {17, -3, 0},
		{math.MaxUint64, math.MaxInt, 1}, {math.MaxUint64 - 1, math.MaxInt, 0}, {math.MaxUint64, 10, 5}, {1 << 63, 10, 8}, {1 << 63, math.MaxInt, 1},
	} {
		if g := mix.Below(c.n, c.most); g != c.want {
			t.Error(i, g)
		}
	}
}

// P22.2: each finalization tells the number that it is of, so no two numbers have the same.
func TestEndBack(t *testing.T) {
	seen := map[uint64]uint64{}
	for _, n := range numbers() {
		g := mix.End(n)
		if back(g) != n {
			t.Error(n, g, back(g))
		}
		if o, ok := seen[g]; ok {
			t.Error("the same end", n, o)
		}
		seen[g] = n
		if mix.End(back(n)) != n {
			t.Error("no number has the end", n)
		}
	}
	for n := range uint64(1 << 16) {
		for _, x := range []uint64{n, n << 24, n << 48} {
			if o, ok := seen[mix.End(x)]; ok && o != x {
				t.Error("the same end", x, o)
			}
			seen[mix.End(x)] = x
		}
	}
}

// P22.2: what a byte was folded into is told by the result, so no two numbers give the same.
func TestFoldBack(t *testing.T) {
	turn := inverse(factor)
	for _, x := range []byte{0, 1, 97, 128, 255} {
		seen := map[uint64]uint64{}
		for _, n := range numbers() {
			g := mix.Fold(n, x)
			if times(g, turn)^uint64(x) != n {
				t.Error(n, x, g)
			}
			if o, ok := seen[g]; ok {
				t.Error("the same fold", x, n, o)
			}
			seen[g] = n
		}
	}
}

// P22.2: arguments are not changed, nor is the memory behind them, and nothing of them is kept.
func TestArguments(t *testing.T) {
	b := mixed(40, 1)
	was := bytes.Clone(b)
	want := mix.Fold(start, b[:20]...)
	row := [][]byte{b[:20], b[20:30], nil}
	kept := slices.Clone(row)
	all := mix.Mix(9, row[:2]...)
	if !bytes.Equal(b, was) {
		t.Error("bytes changed")
	}
	for i := range row {
		if len(row[i]) != len(kept[i]) || cap(row[i]) != cap(kept[i]) || len(row[i]) > 0 && &row[i][0] != &kept[i][0] {
			t.Error("part changed", i)
		}
	}
	for i := range b {
		b[i]++
	}
	if mix.Fold(start, b[:20]...) == want || mix.Mix(9, row[:2]...) == all {
		t.Error("kept")
	}
	if mix.Fold(start, was[:20]...) != want || mix.Mix(9, was[:20], was[20:30]) != all {
		t.Error("another result for the same bytes")
	}
}

// P22.1: calls at once don't touch each other.
func TestAtOnce(t *testing.T) {
	b := mixed(1000, 3)
	var group sync.WaitGroup
	for i := range 8 {
		group.Go(func() {
			for size := range 200 {
				from := uint64(i * size)
				if mix.Fold(from, b[:size]...) != fold(from, b[:size]) || mix.End(from) != end(from) || mix.Mix(from, b[:size], b) != whole(from, [][]byte{b[:size], b}) {
					t.Error(i, size)
				}
			}
		})
	}
	group.Wait()
}
