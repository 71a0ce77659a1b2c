package field_test

import (
	"math"
	"slices"
	"sync"
	"testing"

	"crossway/api"
	"crossway/field"
)

// product multiplies as polynomials first and takes the remainder by x^8 + x^4 + x^3 + x + 1 afterwards.
func product(a, b byte) byte {
	p := 0
	for k := range 8 {
		if b>>k&1 != 0 {
			p ^= int(a) << k
		}
	}
	for k := 14; k >= 8; k-- {
		if p>>k&1 != 0 {
			p ^= 0x11b << (k - 8)
		}
	}
	return byte(p)
}

// inverse looks for the byte whose product with a is 1.
func inverse(a byte) byte {
	for b := range 256 {
		if product(a, byte(b)) == 1 {
			return byte(b)
		}
	}
	return 0
}

// value computes an S-box value bit by bit.
func value(a byte) byte {
	b, s := inverse(a), byte(0)
	for k := range 8 {
		bit := byte(0x63) >> k & 1
		for _, d := range []int{0, 4, 5, 6, 7} {
			bit ^= b >> ((k + d) % 8) & 1
		}
		s |= bit << k
	}
	return s
}

// box is the S-box as the standard prints it.
func box() []byte {
	return []byte{
		0x63, 0x7c, 0x77, 0x7b, 0xf2, 0x6b, 0x6f, 0xc5, 0x30, 0x01, 0x67, 0x2b, 0xfe, 0xd7, 0xab, 0x76,
		0xca, 0x82, 0xc9, 0x7d, 0xfa, 0x59, 0x47, 0xf0, 0xad, 0xd4, 0xa2, 0xaf, 0x9c, 0xa4, 0x72, 0xc0,
		0xb7, 0xfd, 0x93, 0x26, 0x36, 0x3f, 0xf7, 0xcc, 0x34, 0xa5, 0xe5, 0xf1, 0x71, 0xd8, 0x31, 0x15,
		0x04, 0xc7, 0x23, 0xc3, 0x18, 0x96, 0x05, 0x9a, 0x07, 0x12, 0x80, 0xe2, 0xeb, 0x27, 0xb2, 0x75,
		0x09, 0x83, 0x2c, 0x1a, 0x1b, 0x6e, 0x5a, 0xa0, 0x52, 0x3b, 0xd6, 0xb3, 0x29, 0xe3, 0x2f, 0x84,
		0x53, 0xd1, 0x00, 0xed, 0x20, 0xfc, 0xb1, 0x5b, 0x6a, 0xcb, 0xbe, 0x39, 0x4a, 0x4c, 0x58, 0xcf,
		0xd0, 0xef, 0xaa, 0xfb, 0x43, 0x4d, 0x33, 0x85, 0x45, 0xf9, 0x02, 0x7f, 0x50, 0x3c, 0x9f, 0xa8,
		0x51, 0xa3, 0x40, 0x8f, 0x92, 0x9d, 0x38, 0xf5, 0xbc, 0xb6, 0xda, 0x21, 0x10, 0xff, 0xf3, 0xd2,
		0xcd, 0x0c, 0x13, 0xec, 0x5f, 0x97, 0x44, 0x17, 0xc4, 0xa7, 0x7e, 0x3d, 0x64, 0x5d, 0x19, 0x73,
		0x60, 0x81, 0x4f, 0xdc, 0x22, 0x2a, 0x90, 0x88, 0x46, 0xee, 0xb8, 0x14, 0xde, 0x5e, 0x0b, 0xdb,
		0xe0, 0x32, 0x3a, 0x0a, 0x49, 0x06, 0x24, 0x5c, 0xc2, 0xd3, 0xac, 0x62, 0x91, 0x95, 0xe4, 0x79,
		0xe7, 0xc8, 0x37, 0x6d, 0x8d, 0xd5, 0x4e, 0xa9, 0x6c, 0x56, 0xf4, 0xea, 0x65, 0x7a, 0xae, 0x08,
		0xba, 0x78, 0x25, 0x2e, 0x1c, 0xa6, 0xb4, 0xc6, 0xe8, 0xdd, 0x74, 0x1f, 0x4b, 0xbd, 0x8b, 0x8a,
		0x70, 0x3e, 0xb5, 0x66, 0x48, 0x03, 0xf6, 0x0e, 0x61, 0x35, 0x57, 0xb9, 0x86, 0xc1, 0x1d, 0x9e,
		0xe1, 0xf8, 0x98, 0x11, 0x69, 0xd9, 0x8e, 0x94, 0x9b, 0x1e, 0x87, 0xe9, 0xce, 0x55, 0x28, 0xdf,
		0x8c, 0xa1, 0x89, 0x0d, 0xbf, 0xe6, 0x42, 0x68, 0x41, 0x99, 0x2d, 0x0f, 0xb0, 0x54, 0xbb, 0x16,
	}
}

// every is all 256 bytes in order.
func every() []byte {
	b := make([]byte, 256)
	for i := range b {
		b[i] = byte(i)
	}
	return b
}

// P2.1
func TestMul(t *testing.T) {
	for i, c := range []struct{ a, b, want byte }{
		{0x57, 0x83, 0xc1},
		{0x57, 0x13, 0xfe},
		{0x57, 0x02, 0xae},
		{0x57, 0x04, 0x47},
		{0x57, 0x08, 0x8e},
		{0x57, 0x10, 0x07},
		{0x80, 2, 0x1b},
		{0x53, 0xca, 1},
		{255, 255, 0x13},
		{1, 0xab, 0xab},
		{0, 9, 0},
		{0, 0, 0},
		{0, 255, 0},
	} {
		if p := field.Mul(c.a, c.b); p != c.want {
			t.Errorf("%d: %x", i, p)
		}
		if p := field.Mul(c.b, c.a); p != c.want {
			t.Errorf("%d turned: %x", i, p)
		}
	}
}

// P2.1
func TestMulOfEveryPair(t *testing.T) {
	for _, a := range every() {
		for _, b := range every() {
			if p := field.Mul(a, b); p != product(a, b) {
				t.Fatalf("%x %x: %x", a, b, p)
			}
		}
	}
}

// P2.1: the inverse of 0 is 0, that of another byte has the product 1 with it.
func TestInv(t *testing.T) {
	for a, want := range map[byte]byte{0: 0, 1: 1, 2: 0x8d, 3: 0xf6, 0x53: 0xca, 0xca: 0x53, 255: 0x1c} {
		if b := field.Inv(a); b != want {
			t.Errorf("%x: %x", a, b)
		}
	}
	for _, a := range every() {
		b := field.Inv(a)
		if b != inverse(a) {
			t.Errorf("%x: %x", a, b)
		}
		if field.Inv(b) != a {
			t.Errorf("%x and back: %x", a, field.Inv(b))
		}
	}
}

// P2.1: factor by factor, beyond the 255 behind which powers come again.
func TestPow(t *testing.T) {
	for _, a := range every() {
		want := byte(1)
		for n := range uint64(600) {
			if p := field.Pow(a, n); p != want {
				t.Fatalf("%x %d: %x", a, n, p)
			}
			want = product(want, a)
		}
	}
	for i, c := range []struct {
		a    byte
		n    uint64
		want byte
	}{
		{0, 0, 1}, {1, 0, 1}, {3, 0, 1}, {255, 0, 1},
		{0, 1, 0}, {0, 5, 0}, {0, 255, 0}, {0, 256, 0},
		{2, 1, 2}, {2, 7, 0x80}, {2, 8, 0x1b}, {2, 51, 1}, {3, 51, 0x0c}, {3, 255, 1}, {3, 256, 3},
	} {
		if p := field.Pow(c.a, c.n); p != c.want {
			t.Errorf("%d: %x", i, p)
		}
	}
}

// P2.1: a very great n. Each byte but 0 has the 255th power 1.
func TestPowOfGreatNumbers(t *testing.T) {
	great := []uint64{math.MaxUint64, math.MaxUint64 - 1, math.MaxUint64 - 254, math.MaxInt64, math.MaxInt64 + 1, math.MaxUint32, 0x9e3779b97f4a7c15}
	for shift := range 64 {
		great = append(great, 1<<shift)
	}
	for _, n := range great {
		if p := field.Pow(0, n); p != 0 {
			t.Errorf("0 %d: %x", n, p)
		}
		for _, a := range every()[1:] {
			want := byte(1)
			for range n % 255 {
				want = product(want, a)
			}
			if p := field.Pow(a, n); p != want {
				t.Fatalf("%x %d: %x", a, n, p)
			}
		}
	}
}

// P2.1
func TestSum(t *testing.T) {
	for i, c := range []struct {
		list []byte
		want byte
	}{
		{nil, 0},
		{[]byte{}, 0},
		{[]byte{0}, 0},
		{[]byte{0xab}, 0xab},
		{[]byte{0x57, 0x83}, 0xd4},
		{[]byte{0x57, 0x57}, 0},
		{[]byte{255, 1}, 254},
		{[]byte{1, 2, 4, 1}, 6},
		{[]byte{9, 9, 9}, 9},
		{every(), 0},
		{every()[1:], 0},
		{every()[2:], 1},
		{slices.Repeat([]byte{0x80}, 100001), 0x80},
	} {
		before := slices.Clone(c.list)
		if s := field.Sum(c.list...); s != c.want {
			t.Errorf("%d: %x", i, s)
		}
		if !slices.Equal(c.list, before) {
			t.Error(i, c.list)
		}
	}
	if s := field.Sum(); s != 0 {
		t.Error(s)
	}
}

// P2.1: a bit of the sum is 1 if it is in just one of both.
func TestSumOfEveryPair(t *testing.T) {
	for a := range 256 {
		for b := range 256 {
			if s := field.Sum(byte(a), byte(b)); int(s) != (a|b)-(a&b) {
				t.Fatalf("%x %x: %x", a, b, s)
			}
		}
	}
}

// P2.2
func TestSubAndUnsub(t *testing.T) {
	want := box()
	for name, x := range map[string]*field.Tables{"none": field.New(), "some": field.New(2, 3), "every": field.New(every()...)} {
		for _, a := range every() {
			s := x.Sub(a)
			if s != want[a] || s != value(a) {
				t.Errorf("%s %x: %x", name, a, s)
			}
			if b := x.Unsub(want[a]); b != a {
				t.Errorf("%s back %x: %x", name, a, b)
			}
			if s := x.Sub(x.Unsub(a)); s != a {
				t.Errorf("%s there and back %x: %x", name, a, s)
			}
		}
	}
}

// P2.2: the first call already has the right answer, whichever it is.
func TestFirstCalls(t *testing.T) {
	want := box()
	for _, a := range every() {
		if s := field.New().Sub(a); s != want[a] {
			t.Errorf("%x: %x", a, s)
		}
		if b := field.New().Unsub(want[a]); b != a {
			t.Errorf("back %x: %x", a, b)
		}
		if p, e := field.New(9, 0x57).Times(1, a); e != api.OK || p != product(0x57, a) {
			t.Errorf("%x: %x %d", a, p, e)
		}
	}
}

// P2.2: the k-th byte counts, in the order in which they were passed, again if it was passed again.
func TestTimes(t *testing.T) {
	for i, by := range [][]byte{
		{2},
		{3, 2},
		{0x0e, 0x0b, 0x0d, 9},
		{0, 1, 0, 255},
		{7, 7, 7},
		every(),
		append(every(), every()...),
	} {
		x := field.New(by...)
		for k, b := range by {
			for _, a := range every() {
				if p, e := x.Times(k, a); e != api.OK || p != product(b, a) {
					t.Fatalf("%d: %d %x: %x %d", i, k, a, p, e)
				}
			}
		}
	}
}

// P2.2: bytes may be many; their tables are few.
func TestTimesOfManyBytes(t *testing.T) {
	const many = 1 << 22
	by := make([]byte, many)
	for k := range by {
		by[k] = byte(k % 251)
	}
	x := field.New(by...)
	for _, k := range []int{0, 1, 250, 251, many / 2, many - 1} {
		if p, e := x.Times(k, 0x83); e != api.OK || p != product(byte(k%251), 0x83) {
			t.Errorf("%d: %x %d", k, p, e)
		}
	}
	if p, e := x.Times(many, 0x83); p != 0 || e != api.ErrRange {
		t.Error(p, e)
	}
}

// P2.2: there is no k-th byte.
func TestTimesOutOfRange(t *testing.T) {
	for i, by := range [][]byte{nil, {}, {2}, {2, 3, 0x0e}, every()} {
		for _, first := range []bool{true, false} {
			x := field.New(by...)
			if !first {
				x.Sub(1)
			}
			for _, k := range []int{-1, -2, -256, math.MinInt, len(by), len(by) + 1, len(by) + 256, math.MaxInt, math.MaxInt - 1, 1 << 32, -1 << 32} {
				for _, a := range []byte{0, 1, 9, 255} {
					if p, e := x.Times(k, a); p != 0 || e != api.ErrRange {
						t.Errorf("%d: %d %x: %x %d", i, k, a, p, e)
					}
				}
			}
			for k, b := range by { // the calls before did no harm
				if p, e := x.Times(k, 0x57); e != api.OK || p != product(b, 0x57) {
					t.Errorf("%d: %d: %x %d", i, k, p, e)
				}
			}
		}
	}
}

// calls are all that may be the first to need the tables.
func calls() map[string]func(x *field.Tables) {
	return map[string]func(x *field.Tables){
		"sub":         func(x *field.Tables) { x.Sub(0) },
		"unsub":       func(x *field.Tables) { x.Unsub(0) },
		"times":       func(x *field.Tables) { x.Times(0, 0) },
		"times below": func(x *field.Tables) { x.Times(-1, 1) },
		"times above": func(x *field.Tables) { x.Times(9, 1) },
	}
}

// P2.2
func TestMade(t *testing.T) {
	for name, call := range calls() {
		for i, by := range [][]byte{nil, {2}, {2, 3}, every()} {
			x := field.New(by...)
			for range 3 {
				if n := x.Made(); n != 0 {
					t.Error(name, i, "before", n)
				}
			}
			for range 3 {
				call(x)
				if n := x.Made(); n != 1 {
					t.Error(name, i, n)
				}
			}
			for next, other := range calls() {
				other(x)
				if n := x.Made(); n != 1 {
					t.Error(name, i, next, n)
				}
			}
		}
	}
}

// P2.2: each object has tables and a count of its own, of the same bytes too.
func TestMadeOfEach(t *testing.T) {
	first, second, third := field.New(2, 3), field.New(2, 3), field.New(5)
	first.Sub(1)
	if first.Made() != 1 || second.Made() != 0 || third.Made() != 0 {
		t.Error(first.Made(), second.Made(), third.Made())
	}
	third.Times(0, 1)
	if first.Made() != 1 || second.Made() != 0 || third.Made() != 1 {
		t.Error(first.Made(), second.Made(), third.Made())
	}
	if p, e := second.Times(1, 0x80); e != api.OK || p != product(3, 0x80) {
		t.Error(p, e)
	}
	if p, e := third.Times(0, 0x80); e != api.OK || p != product(5, 0x80) {
		t.Error(p, e)
	}
	if first.Made() != 1 || second.Made() != 1 || third.Made() != 1 {
		t.Error(first.Made(), second.Made(), third.Made())
	}
}

// P2.2: many who need them at once find them computed once.
func TestMadeAtOnce(t *testing.T) {
	want := box()
	for range 20 {
		x := field.New(2, 3)
		var all sync.WaitGroup
		for i := range 16 {
			all.Go(func() {
				a := byte(17 * i)
				p, e := x.Times(i%2, a)
				if x.Sub(a) != want[a] || x.Unsub(want[a]) != a || e != api.OK || p != product(byte(2+i%2), a) || x.Made() != 1 {
					t.Error(i, p, e, x.Made())
				}
			})
		}
		all.Wait()
		if x.Made() != 1 {
			t.Error(x.Made())
		}
	}
}

// P2.2: the bytes passed to New stay as they are, and what lies behind them too.
func TestBytesStay(t *testing.T) {
	whole := []byte{2, 3, 0x0e, 0xa5, 0xa5}
	want := slices.Clone(whole)
	x := field.New(whole[:3]...)
	for _, call := range calls() {
		call(x)
	}
	x.Times(3, 1)
	if !slices.Equal(whole, want) {
		t.Error(whole)
	}
}

// P2.2: the bytes passed to New may be changed, before the tables are computed and afterwards.
func TestBytesMayChange(t *testing.T) {
	for _, early := range []bool{true, false} {
		by := []byte{2, 3, 0x0e}
		want := slices.Clone(by)
		x := field.New(by...)
		if !early {
			x.Sub(0)
		}
		for k := range by {
			by[k] = byte(0x90 + k)
		}
		for k, b := range want {
			for _, a := range every() {
				if p, e := x.Times(k, a); e != api.OK || p != product(b, a) {
					t.Fatalf("%v: %d %x: %x %d", early, k, a, p, e)
				}
			}
		}
		if p, e := x.Times(3, 1); p != 0 || e != api.ErrRange {
			t.Error(early, p, e)
		}
	}
}
