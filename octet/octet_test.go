package octet_test

import (
	"math"
	"slices"
	"strings"
	"testing"

	"crossway/api"
	"crossway/octet"
)

// every is all 256 bytes in order.
func every() []byte {
	b := make([]byte, 256)
	for i := range b {
		b[i] = byte(i)
	}
	return b
}

// spoil writes over a slice, its spare capacity too. It counts up, so that a second time doesn't undo the first.
func spoil(b []byte) {
	b = b[:cap(b)]
	for i := range b {
		b[i]++
	}
}

// roomy is a copy of b within a greater piece of memory, so that a write behind its end shows.
func roomy(b []byte) (arg, whole []byte) {
	whole = append(slices.Clone(b), 0xa5, 0xa5, 0xa5, 0xa5)
	return whole[:len(b)], whole
}

// P1.1
func TestJoin(t *testing.T) {
	for i, c := range []struct {
		parts [][]byte
		want  []byte
	}{
		{nil, nil},
		{[][]byte{nil}, nil},
		{[][]byte{{}, nil, {}}, nil},
		{[][]byte{{1}}, []byte{1}},
		{[][]byte{{1}, {2, 3}}, []byte{1, 2, 3}},
		{[][]byte{{2, 3}, {1}}, []byte{2, 3, 1}},
		{[][]byte{nil, {0}, {}, {255, 0}, nil, {7, 7, 7}, nil}, []byte{0, 255, 0, 7, 7, 7}},
		{[][]byte{every(), every()}, slices.Concat(every(), every())},
	} {
		if b := octet.Join(c.parts...); !slices.Equal(b, c.want) {
			t.Error(i, b, c.want)
		}
	}
}

// P1.1
func TestXor(t *testing.T) {
	for i, c := range []struct {
		a, b, want []byte
		err        api.Errno
	}{
		{nil, nil, nil, api.OK},
		{[]byte{}, nil, nil, api.OK},
		{[]byte{0}, []byte{0}, []byte{0}, api.OK},
		{[]byte{0x0f}, []byte{0x3c}, []byte{0x33}, api.OK},
		{[]byte{1, 255, 0}, []byte{3, 15, 128}, []byte{2, 240, 128}, api.OK},
		{[]byte{1}, nil, nil, api.ErrRange},
		{nil, []byte{1}, nil, api.ErrRange},
		{[]byte{1, 2}, []byte{1}, nil, api.ErrRange},
		{[]byte{1}, []byte{1, 2}, nil, api.ErrRange},
	} {
		if b, e := octet.Xor(c.a, c.b); e != c.err || !slices.Equal(b, c.want) {
			t.Error(i, b, e)
		}
	}
}

// P1.1: each pair of bytes comes to the bits that are in just one of both.
func TestXorOfEveryPair(t *testing.T) {
	for x := range 256 {
		for y := range 256 {
			want := (x | y) - (x & y)
			b, e := octet.Xor([]byte{byte(x)}, []byte{byte(y)})
			if e != api.OK || len(b) != 1 || int(b[0]) != want {
				t.Fatal(x, y, b, e)
			}
		}
	}
}

// P1.1
func TestEqual(t *testing.T) {
	for i, c := range []struct {
		a, b []byte
		want bool
	}{
		{nil, nil, true},
		{nil, []byte{}, true},
		{[]byte{}, nil, true},
		{[]byte{7}, []byte{7}, true},
		{every(), every(), true},
		{[]byte{0}, nil, false},
		{nil, []byte{0}, false},
		{[]byte{1}, []byte{1, 0}, false},
		{[]byte{1, 0}, []byte{1}, false},
		{[]byte{1, 2}, []byte{1, 3}, false},
		{[]byte{1, 2}, []byte{0, 2}, false},
		{[]byte{1, 2}, []byte{2, 1}, false},
		{[]byte{1, 2, 3}, []byte{1, 0, 3}, false},
		{[]byte{0x80}, []byte{0}, false},
	} {
		if got := octet.Equal(c.a, c.b); got != c.want {
			t.Error(i, got)
		}
	}
}

// P1.2
func TestNum(t *testing.T) {
	for i, c := range []struct {
		b    []byte
		want uint64
		err  api.Errno
	}{
		{nil, 0, api.OK},
		{[]byte{}, 0, api.OK},
		{[]byte{0}, 0, api.OK},
		{[]byte{255}, 255, api.OK},
		{[]byte{1, 2}, 258, api.OK},
		{[]byte{0, 0, 1, 2}, 258, api.OK},
		{[]byte{1, 2, 3, 4, 5, 6, 7}, 0x01020304050607, api.OK},
		{[]byte{1, 2, 3, 4, 5, 6, 7, 8}, 0x0102030405060708, api.OK},
		{[]byte{0x80, 0, 0, 0, 0, 0, 0, 0}, 1 << 63, api.OK},
		{slices.Repeat([]byte{255}, 8), math.MaxUint64, api.OK},
		{slices.Repeat([]byte{255}, 9), 0, api.ErrRange},
		{make([]byte, 9), 0, api.ErrRange}, // leading zeros count too
		{[]byte{0, 0, 0, 0, 0, 0, 0, 0, 1}, 0, api.ErrRange},
		{make([]byte, 1000), 0, api.ErrRange},
	} {
		if n, e := octet.Num(c.b); e != c.err || n != c.want {
			t.Error(i, n, e)
		}
	}
}

// P1.2
func TestPut(t *testing.T) {
	for i, c := range []struct {
		n    uint64
		size int
		want []byte
		err  api.Errno
	}{
		{0, 0, nil, api.OK},
		{0, 1, []byte{0}, api.OK},
		{0, 8, make([]byte, 8), api.OK},
		{258, 2, []byte{1, 2}, api.OK},
		{258, 3, []byte{0, 1, 2}, api.OK},
		{258, 8, []byte{0, 0, 0, 0, 0, 0, 1, 2}, api.OK},
		{0x0102030405060708, 8, []byte{1, 2, 3, 4, 5, 6, 7, 8}, api.OK},
		{math.MaxUint64, 8, slices.Repeat([]byte{255}, 8), api.OK},
		{1, 0, nil, api.ErrRange},
		{math.MaxUint64, 0, nil, api.ErrRange},
		{258, 1, nil, api.ErrRange},
		{math.MaxUint64, 7, nil, api.ErrRange},
		{0, -1, nil, api.ErrRange},
		{0, 9, nil, api.ErrRange},
		{258, 9, nil, api.ErrRange},
		{0, math.MinInt, nil, api.ErrRange},
		{0, math.MaxInt, nil, api.ErrRange},
	} {
		if b, e := octet.Put(c.n, c.size); e != c.err || !slices.Equal(b, c.want) {
			t.Error(i, b, e)
		}
	}
}

// P1.2: at each size the greatest integer that fits, and the least that doesn't.
func TestPutAtTheEdges(t *testing.T) {
	for size := range 8 {
		over := uint64(1) << (8 * size)
		if b, e := octet.Put(over-1, size); e != api.OK || !slices.Equal(b, slices.Repeat([]byte{255}, size)) {
			t.Error(size, b, e)
		}
		if b, e := octet.Put(over, size); e != api.ErrRange || len(b) != 0 {
			t.Error(size, b, e)
		}
		if b, e := octet.Put(over, size+1); e != api.OK || !slices.Equal(b, append([]byte{1}, make([]byte, size)...)) {
			t.Error(size, b, e)
		}
	}
}

// P1.2: Num takes back what Put laid.
func TestPutAndNum(t *testing.T) {
	for shift := range 64 {
		for _, n := range []uint64{1 << shift, 1<<shift - 1, math.MaxUint64 >> shift, 0x9e3779b97f4a7c15 >> shift} {
			b, e := octet.Put(n, 8)
			if e != api.OK || len(b) != 8 {
				t.Fatal(n, b, e)
			}
			if back, e := octet.Num(b); e != api.OK || back != n {
				t.Error(n, b, back, e)
			}
		}
	}
}

// P1.3
func TestHex(t *testing.T) {
	for i, c := range []struct {
		b    []byte
		want string
	}{
		{nil, ""},
		{[]byte{}, ""},
		{[]byte{0}, "00"},
		{[]byte{10, 255}, "0aff"},
		{[]byte{0x01, 0x23, 0x45, 0x67, 0x89, 0xab, 0xcd, 0xef}, "0123456789abcdef"},
		{[]byte{0x10, 0xf0, 0xa9}, "10f0a9"},
	} {
		if s := octet.Hex(c.b); s != c.want {
			t.Error(i, s)
		}
	}
}

// P1.3
func TestUnhex(t *testing.T) {
	for s, want := range map[string][]byte{
		"":                 nil,
		"00":               {0},
		"0aff":             {10, 255},
		"10f0a9":           {0x10, 0xf0, 0xa9},
		"0123456789abcdef": {0x01, 0x23, 0x45, 0x67, 0x89, 0xab, 0xcd, 0xef},
	} {
		if b, e := octet.Unhex(s); e != api.OK || !slices.Equal(b, want) {
			t.Error(s, b, e)
		}
	}
	for _, s := range []string{
		"0", "a", "0af", "0g", "g0", "0A", "A0", "0aFF", "0aff0", "0aff0x", "0x0a", " 0", "0 ", "0a ", " 0a", "0a\n",
		"-1", "+1", "0a,ff", "é", "\x00\x00", "\xff\xff", "ａ0", "zz00", "00zz",
	} {
		if b, e := octet.Unhex(s); e != api.ErrForm || len(b) != 0 {
			t.Errorf("%q %v %d", s, b, e)
		}
	}
}

// P1.3: of all pairs of characters, just the 256 that are the Hex of a byte are taken.
func TestUnhexOfEveryPair(t *testing.T) {
	known := map[string]byte{}
	for _, x := range every() {
		known[octet.Hex([]byte{x})] = x
	}
	if len(known) != 256 {
		t.Fatal(len(known))
	}
	for x := range 256 {
		for y := range 256 {
			s := string([]byte{byte(x), byte(y)})
			want, ok := known[s]
			b, e := octet.Unhex(s)
			if ok && (e != api.OK || !slices.Equal(b, []byte{want})) {
				t.Fatalf("%q %v %d", s, b, e)
			}
			if !ok && (e != api.ErrForm || len(b) != 0) {
				t.Fatalf("%q %v %d", s, b, e)
			}
		}
	}
}

// P1.3
func TestHexAndUnhex(t *testing.T) {
	all := every()
	s := octet.Hex(all)
	if len(s) != 512 || strings.Trim(s, "0123456789abcdef") != "" {
		t.Error(s)
	}
	if b, e := octet.Unhex(s); e != api.OK || !slices.Equal(b, all) {
		t.Error(b, e)
	}
	long := slices.Repeat(all, 1024)
	if b, e := octet.Unhex(octet.Hex(long)); e != api.OK || !slices.Equal(b, long) {
		t.Error(len(b), e)
	}
}

// P1.3: no call writes into an argument, nor behind its end.
func TestArgumentsStay(t *testing.T) {
	first, second := []byte{1, 2, 3}, []byte{4, 5, 6}
	a, wholeA := roomy(first)
	b, wholeB := roomy(second)
	wantA, wantB := slices.Clone(wholeA), slices.Clone(wholeB)
	parts := [][]byte{a, nil, b}

	octet.Join(parts...)
	octet.Xor(a, b)
	octet.Xor(a, b[:2])
	octet.Equal(a, b)
	octet.Num(a)
	octet.Hex(a)

	if !slices.Equal(wholeA, wantA) || !slices.Equal(wholeB, wantB) {
		t.Error(wholeA, wholeB)
	}
	if len(parts) != 3 || !slices.Equal(parts[0], first) || parts[1] != nil || !slices.Equal(parts[2], second) {
		t.Error(parts)
	}
}

// P1.3: a result shares nothing with an argument, its spare capacity neither.
func TestResultsAreNew(t *testing.T) {
	one, whole := roomy([]byte{1, 2, 3})
	want := slices.Clone(whole)
	zero := make([]byte, 3)

	spoil(octet.Join(one))
	spoil(octet.Join(nil, one, nil))
	spoil(octet.Join(one[:0]))
	spoil(octet.Join(one[:1], one[1:]))
	for _, pair := range [][2][]byte{{one, zero}, {zero, one}, {one, one}, {one[:0], zero[:0]}} {
		b, _ := octet.Xor(pair[0], pair[1])
		spoil(b)
	}
	if !slices.Equal(whole, want) || !slices.Equal(zero, make([]byte, 3)) {
		t.Error(whole, zero)
	}
}

// P1.3: a result shares nothing with the result of the same call before it.
func TestResultsAreApart(t *testing.T) {
	for name, call := range map[string]func() []byte{
		"join":       func() []byte { return octet.Join([]byte{1}, []byte{2, 3}) },
		"join none":  func() []byte { return octet.Join() },
		"xor":        func() []byte { b, _ := octet.Xor([]byte{1, 2}, []byte{3, 4}); return b },
		"xor error":  func() []byte { b, _ := octet.Xor([]byte{1, 2}, nil); return b },
		"put":        func() []byte { b, _ := octet.Put(258, 8); return b },
		"put zero":   func() []byte { b, _ := octet.Put(0, 0); return b },
		"unhex":      func() []byte { b, _ := octet.Unhex("0aff"); return b },
		"unhex none": func() []byte { b, _ := octet.Unhex(""); return b },
	} {
		first := call()
		want := slices.Clone(first)
		spoil(call())
		if !slices.Equal(first, want) || !slices.Equal(call(), want) {
			t.Error(name, first, want)
		}
	}
}
