package poly_test

import (
	"bytes"
	"encoding/binary"
	"math"
	"math/big"
	"slices"
	"sync"
	"testing"

	"crossway/api"
	"crossway/poly"
)

// bit is the power x^k.
func bit(k int) poly.Elem {
	if k < 64 {
		return poly.Elem{Hi: 1 << (63 - k)}
	}
	return poly.Elem{Lo: 1 << (127 - k)}
}

// number has an element's coefficient of x^k as its bit of value 2^k.
func number(e poly.Elem) *big.Int {
	n := new(big.Int)
	for k := range 128 {
		word := e.Hi
		if k >= 64 {
			word = e.Lo
		}
		n.SetBit(n, k, uint(word>>(63-k%64)&1))
	}
	return n
}

func element(n *big.Int) poly.Elem {
	var e poly.Elem
	for k := range 128 {
		if n.Bit(k) == 1 {
			e.Hi |= bit(k).Hi
			e.Lo |= bit(k).Lo
		}
	}
	return e
}

// product multiplies as polynomials first and takes the remainder by x^128 + x^7 + x^2 + x + 1 afterwards.
func product(a, b poly.Elem) poly.Elem {
	m, n, p := number(a), number(b), new(big.Int)
	for k := range 128 {
		if n.Bit(k) == 1 {
			p.Xor(p, new(big.Int).Lsh(m, uint(k)))
		}
	}
	modulus := new(big.Int).Lsh(big.NewInt(1), 128)
	modulus.Xor(modulus, big.NewInt(0x87))
	for k := 254; k >= 128; k-- {
		if p.Bit(k) == 1 {
			p.Xor(p, new(big.Int).Lsh(modulus, uint(k-128)))
		}
	}
	return element(p)
}

// elems are some elements: all powers of x below x^128, runs of equal coefficients, and others without a pattern.
func elems() []poly.Elem {
	list := []poly.Elem{{}, {Hi: math.MaxUint64}, {Lo: math.MaxUint64}, {Hi: math.MaxUint64, Lo: math.MaxUint64}, {Hi: 1 << 63, Lo: 1}, {Hi: 1, Lo: 1 << 63}}
	for k := range 128 {
		list = append(list, bit(k))
	}
	return append(list, mixed(60)...)
}

// mixed are n elements without a pattern.
func mixed(n int) []poly.Elem {
	var list []poly.Elem
	state := uint64(1)
	word := func() uint64 {
		state = state*6364136223846793005 + 1442695040888963407
		return state ^ state>>29
	}
	for range n {
		list = append(list, poly.Elem{Hi: word(), Lo: word()})
	}
	return list
}

// spoil writes over a slice, its spare capacity too.
func spoil(b []byte) {
	b = b[:cap(b)]
	for i := range b {
		b[i]++
	}
}

// P4.1
func TestOf(t *testing.T) {
	for i, c := range []struct {
		b    []byte
		want poly.Elem
	}{
		{make([]byte, 16), poly.Elem{}},
		{[]byte{1, 2, 3, 4, 5, 6, 7, 8, 9, 10, 11, 12, 13, 14, 15, 16}, poly.Elem{Hi: 0x0102030405060708, Lo: 0x090a0b0c0d0e0f10}},
		{[]byte{0x80, 0, 0, 0, 0, 0, 0, 0, 0, 0, 0, 0, 0, 0, 0, 0}, poly.Elem{Hi: 1 << 63}},
		{[]byte{0, 0, 0, 0, 0, 0, 0, 1, 0, 0, 0, 0, 0, 0, 0, 0}, poly.Elem{Hi: 1}},
		{[]byte{0, 0, 0, 0, 0, 0, 0, 0, 0x80, 0, 0, 0, 0, 0, 0, 0}, poly.Elem{Lo: 1 << 63}},
		{[]byte{0, 0, 0, 0, 0, 0, 0, 0, 0, 0, 0, 0, 0, 0, 0, 1}, poly.Elem{Lo: 1}},
		{slices.Repeat([]byte{255}, 16), poly.Elem{Hi: math.MaxUint64, Lo: math.MaxUint64}},
	} {
		if e, err := poly.Of(c.b); e != c.want || err != api.OK {
			t.Errorf("%d: %x %d", i, e, err)
		}
	}
}

// P4.1
func TestOfWrongLength(t *testing.T) {
	if e, err := poly.Of(nil); e != (poly.Elem{}) || err != api.ErrRange {
		t.Error(e, err)
	}
	lengths := []int{31, 32, 33, 48, 255, 256, 272, 65535, 65536, 65552}
	for n := range 25 {
		if n != 16 {
			lengths = append(lengths, n)
		}
	}
	for _, n := range lengths {
		for _, b := range [][]byte{make([]byte, n), slices.Repeat([]byte{255}, n), make([]byte, n, n+16)} { // what lies behind the length does not count
			if e, err := poly.Of(b); e != (poly.Elem{}) || err != api.ErrRange {
				t.Error(n, e, err)
			}
		}
	}
}

// P4.1
func TestBytes(t *testing.T) {
	for i, c := range []struct {
		e    poly.Elem
		want []byte
	}{
		{poly.Elem{}, make([]byte, 16)},
		{poly.Elem{Hi: 0x0102030405060708, Lo: 0x090a0b0c0d0e0f10}, []byte{1, 2, 3, 4, 5, 6, 7, 8, 9, 10, 11, 12, 13, 14, 15, 16}},
		{poly.Elem{Hi: 1 << 63}, []byte{0x80, 0, 0, 0, 0, 0, 0, 0, 0, 0, 0, 0, 0, 0, 0, 0}},
		{poly.Elem{Lo: 1}, []byte{0, 0, 0, 0, 0, 0, 0, 0, 0, 0, 0, 0, 0, 0, 0, 1}},
		{poly.Elem{Hi: 1, Lo: 1 << 63}, []byte{0, 0, 0, 0, 0, 0, 0, 1, 0x80, 0, 0, 0, 0, 0, 0, 0}},
		{poly.Elem{Hi: math.MaxUint64, Lo: math.MaxUint64}, slices.Repeat([]byte{255}, 16)},
	} {
		if b := c.e.Bytes(); !bytes.Equal(b, c.want) {
			t.Errorf("%d: %x", i, b)
		}
	}
}

// P4.1: Of takes back what Bytes laid.
func TestOfAndBytes(t *testing.T) {
	for _, e := range elems() {
		want := binary.BigEndian.AppendUint64(binary.BigEndian.AppendUint64(nil, e.Hi), e.Lo)
		b := e.Bytes()
		if !bytes.Equal(b, want) {
			t.Errorf("%x: %x", e, b)
		}
		if back, err := poly.Of(b); back != e || err != api.OK {
			t.Errorf("%x: %x %d", e, back, err)
		}
	}
}

// P4.1
func TestSum(t *testing.T) {
	a, b, c := poly.Elem{Hi: 12, Lo: 0x0f}, poly.Elem{Hi: 10, Lo: 0x3c}, poly.Elem{Hi: 1 << 63, Lo: 1}
	for i, s := range []struct {
		list []poly.Elem
		want poly.Elem
	}{
		{nil, poly.Elem{}},
		{[]poly.Elem{}, poly.Elem{}},
		{[]poly.Elem{{}}, poly.Elem{}},
		{[]poly.Elem{a}, a},
		{[]poly.Elem{a, {}}, a},
		{[]poly.Elem{a, a}, poly.Elem{}},
		{[]poly.Elem{a, a, a}, a},
		{[]poly.Elem{a, b}, poly.Elem{Hi: 6, Lo: 0x33}},
		{[]poly.Elem{b, a}, poly.Elem{Hi: 6, Lo: 0x33}},
		{[]poly.Elem{a, b, c}, poly.Elem{Hi: 1<<63 + 6, Lo: 0x32}},
		{[]poly.Elem{a, b, c, b, a}, c},
		{slices.Repeat([]poly.Elem{a, b}, 500), poly.Elem{}},
		{slices.Repeat([]poly.Elem{a, b}, 501), poly.Elem{Hi: 6, Lo: 0x33}},
	} {
		if e := poly.Sum(s.list...); e != s.want {
			t.Errorf("%d: %x", i, e)
		}
	}
	all := poly.Elem{}
	for k := range 128 {
		all = poly.Sum(all, bit(k))
	}
	if all != (poly.Elem{Hi: math.MaxUint64, Lo: math.MaxUint64}) {
		t.Errorf("%x", all)
	}
}

// P4.1: one is x^0, which changes no factor.
func TestOne(t *testing.T) {
	if poly.One() != (poly.Elem{Hi: 1 << 63}) {
		t.Errorf("%x", poly.One())
	}
	for _, e := range elems() {
		if p := e.Times(poly.One()); p != e {
			t.Errorf("%x: %x", e, p)
		}
		if p := poly.One().Times(e); p != e {
			t.Errorf("%x behind: %x", e, p)
		}
	}
}

// P4.2: products of the sums that the authors of GCM print in their test cases.
func TestVectors(t *testing.T) {
	h := poly.Elem{Hi: 0x66e94bd4ef8a2c3b, Lo: 0x884cfa59ca342b2e}
	text := poly.Elem{Hi: 0x0388dace60b6a392, Lo: 0xf328c2b971b2fe78}
	folded := poly.Elem{Hi: 0x5e2ec74691706288, Lo: 0x2c85b0685353deb7}
	want := poly.Elem{Hi: 0xf38cbb1ad69223dc, Lo: 0xc3457ae5b6b0f885}
	if p := text.Times(h); p != folded {
		t.Errorf("%x", p)
	}
	if p := h.Times(text); p != folded {
		t.Errorf("turned: %x", p)
	}
	if p := poly.Sum(folded, poly.Elem{Lo: 128}).Times(h); p != want {
		t.Errorf("%x", p)
	}
}

// P4.2
func TestTimes(t *testing.T) {
	list := elems()
	for i, a := range list {
		for j, b := range list {
			if (i+j)%7 != 0 && i > 5 && j > 5 { // a seventh of the pairs is enough
				continue
			}
			if p, want := a.Times(b), product(a, b); p != want {
				t.Fatalf("%x %x: %x, not %x", a, b, p, want)
			}
		}
	}
}

// P4.2: powers of x, whose product has the sum of their degrees, or what that leaves.
func TestTimesOfPowersOfX(t *testing.T) {
	power := poly.One()
	for degree := range 255 {
		for k := max(0, degree-127); k <= min(degree, 127); k++ {
			if p := bit(k).Times(bit(degree - k)); p != power {
				t.Fatalf("%d %d: %x, not %x", k, degree-k, p, power)
			}
		}
		power = product(power, bit(1))
	}
}

// P4.2: the laws of a field.
func TestLaws(t *testing.T) {
	list := append(mixed(30), poly.Elem{}, poly.One(), bit(1), bit(63), bit(64), bit(127), poly.Elem{Hi: math.MaxUint64, Lo: math.MaxUint64})
	for i, a := range list {
		b, c := list[(i+1)%len(list)], list[(i+5)%len(list)]
		if a.Times(b) != b.Times(a) {
			t.Errorf("turned: %x %x", a, b)
		}
		if a.Times(b).Times(c) != a.Times(b.Times(c)) {
			t.Errorf("in either order: %x %x %x", a, b, c)
		}
		if a.Times(poly.Sum(b, c)) != poly.Sum(a.Times(b), a.Times(c)) {
			t.Errorf("over a sum: %x %x %x", a, b, c)
		}
		if a.Times(poly.Elem{}) != (poly.Elem{}) || (poly.Elem{}).Times(a) != (poly.Elem{}) {
			t.Errorf("zero: %x", a)
		}
		squared := a
		for range 128 {
			squared = squared.Times(squared)
		}
		if squared != a {
			t.Errorf("squared 128 times: %x %x", a, squared)
		}
	}
}

// P4.2
func TestNext(t *testing.T) {
	for i, c := range []struct{ e, want poly.Elem }{
		{poly.Elem{}, poly.Elem{}},
		{poly.Elem{Hi: 1 << 63}, poly.Elem{Hi: 1 << 62}},
		{poly.Elem{Hi: 1}, poly.Elem{Lo: 1 << 63}},
		{poly.Elem{Lo: 1 << 63}, poly.Elem{Lo: 1 << 62}},
		{poly.Elem{Lo: 2}, poly.Elem{Lo: 1}},
		{poly.Elem{Lo: 1}, poly.Elem{Hi: 0xe1 << 56}},
		{poly.Elem{Hi: 1, Lo: 1}, poly.Elem{Hi: 0xe1 << 56, Lo: 1 << 63}},
		{poly.Elem{Hi: 1 << 63, Lo: 1}, poly.Elem{Hi: 0xa1 << 56}},
		{poly.Elem{Hi: math.MaxUint64, Lo: math.MaxUint64}, poly.Elem{Hi: 0x9e<<56 | 1<<56 - 1, Lo: math.MaxUint64}},
	} {
		if n := c.e.Next(); n != c.want {
			t.Errorf("%d: %x", i, n)
		}
	}
	for _, e := range elems() {
		want := product(e, bit(1))
		if n := e.Next(); n != want {
			t.Errorf("%x: %x", e, n)
		}
		if p := e.Times(bit(1)); p != want {
			t.Errorf("%x times x: %x", e, p)
		}
	}
}

// P4.2: factor by factor.
func TestPow(t *testing.T) {
	for _, e := range append(mixed(8), poly.Elem{}, poly.One(), bit(1), bit(127), poly.Elem{Hi: math.MaxUint64, Lo: math.MaxUint64}) {
		want := poly.One()
		for n := range uint64(70) {
			if p := e.Pow(n); p != want {
				t.Fatalf("%x %d: %x, not %x", e, n, p, want)
			}
			want = product(want, e)
		}
	}
}

// P4.2: the edges of an exponent.
func TestPowOfGreatExponents(t *testing.T) {
	for n, want := range map[uint64]poly.Elem{
		0: {Hi: 1 << 63}, 1: {Hi: 1 << 62}, 63: {Hi: 1}, 64: {Lo: 1 << 63}, 127: {Lo: 1}, 128: {Hi: 0xe1 << 56}, 129: {Hi: 0xe1 << 55},
	} {
		if p := bit(1).Pow(n); p != want {
			t.Errorf("x %d: %x", n, p)
		}
	}
	for _, n := range []uint64{1, 2, 1 << 31, 1 << 32, 1 << 63, math.MaxUint64} {
		if p := (poly.Elem{}).Pow(n); p != (poly.Elem{}) {
			t.Errorf("zero %d: %x", n, p)
		}
		if p := poly.One().Pow(n); p != poly.One() {
			t.Errorf("one %d: %x", n, p)
		}
	}
	if p := (poly.Elem{}).Pow(0); p != poly.One() {
		t.Errorf("zero 0: %x", p)
	}
	for _, e := range mixed(10) {
		squared := e
		for k := range 64 {
			if p := e.Pow(1 << k); p != squared {
				t.Fatalf("%x 2^%d: %x", e, k, p)
			}
			if p := product(e.Pow(1<<k-1), e); p != squared {
				t.Fatalf("%x 2^%d - 1: %x", e, k, p)
			}
			squared = product(squared, squared)
		}
		if p := product(e.Pow(math.MaxUint64), e); p != squared {
			t.Errorf("%x 2^64 - 1: %x", e, p)
		}
	}
}

// P4.1, P4.2: no call changes an argument, nor what lies behind it.
func TestArgumentsStay(t *testing.T) {
	whole := slices.Repeat([]byte{0xa5, 1, 2}, 8)
	want := slices.Clone(whole)
	poly.Of(whole[2:18])
	poly.Of(whole[2:17])
	poly.Of(whole[:0])
	if !bytes.Equal(whole, want) {
		t.Errorf("%x", whole)
	}

	list := mixed(6)
	kept := slices.Clone(list)
	poly.Sum(list[1:4]...)
	poly.Sum(list[:0]...)
	list[0].Times(list[1])
	list[2].Next()
	list[3].Pow(5)
	list[4].Bytes()
	if !slices.Equal(list, kept) {
		t.Errorf("%x", list)
	}
}

// P4.1: an element doesn't hang on its bytes afterwards, nor bytes on other ones.
func TestResultsAreNew(t *testing.T) {
	from := []byte{1, 2, 3, 4, 5, 6, 7, 8, 9, 10, 11, 12, 13, 14, 15, 16}
	want := slices.Clone(from)
	e, _ := poly.Of(from)
	first, second := e.Bytes(), e.Bytes()
	spoil(from)
	spoil(first)
	if !bytes.Equal(second, want) || !bytes.Equal(e.Bytes(), want) {
		t.Errorf("%x %x", second, e.Bytes())
	}
	zero := (poly.Elem{}).Bytes()
	spoil(zero)
	if b := (poly.Elem{}).Bytes(); !bytes.Equal(b, make([]byte, 16)) {
		t.Errorf("%x", b)
	}
}

// P4.2: what a call answers hangs on no call before it or beside it.
func TestAtOnce(t *testing.T) {
	list := mixed(20)
	var all sync.WaitGroup
	for range 8 {
		all.Go(func() {
			for i, a := range list {
				b := list[len(list)-1-i]
				if a.Times(b) != product(a, b) || a.Pow(3) != a.Times(a).Times(a) {
					t.Errorf("%x %x", a, b)
				}
			}
		})
	}
	all.Wait()
}
