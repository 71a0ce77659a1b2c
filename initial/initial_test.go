package initial_test

import (
	"bytes"
	"encoding/binary"
	"encoding/hex"
	"math"
	"slices"
	"sync"
	"testing"

	"crossway/api"
	"crossway/head"
	"crossway/initial"
)

func raw(t *testing.T, s string) []byte {
	t.Helper()
	b, err := hex.DecodeString(s)
	if err != nil {
		t.Fatal(s, err)
	}
	return b
}

// mixed are n bytes without a pattern; others for another seed.
func mixed(n int, seed uint64) []byte {
	b := make([]byte, n)
	for i := range b {
		seed = seed*6364136223846793005 + 1442695040888963407
		b[i] = byte(seed >> 40)
	}
	return b
}

// spoil writes over a slice, its spare capacity too. It counts up, so that a second time doesn't undo the first.
func spoil(b []byte) {
	b = b[:cap(b)]
	for i := range b {
		b[i]++
	}
}

// encoded is the encoding of a number with 1<<class bytes.
func encoded(v uint64, class int) []byte {
	b := binary.BigEndian.AppendUint64(nil, v)[8-1<<class:]
	b[0] |= byte(class) << 6
	return b
}

// shortest is the shortest encoding of a length.
func shortest(n int) []byte {
	switch {
	case n < 1<<6:
		return encoded(uint64(n), 0)
	case n < 1<<14:
		return encoded(uint64(n), 1)
	case n < 1<<30:
		return encoded(uint64(n), 2)
	}
	return encoded(uint64(n), 3)
}

// header are a long header's bytes, laid out as layer 10's chapter says.
func header(first byte, version uint32, to, from []byte) []byte {
	b := binary.BigEndian.AppendUint32([]byte{first}, version)
	return slices.Concat(b, []byte{byte(len(to))}, to, []byte{byte(len(from))}, from)
}

// packet are an Initial's bytes, laid out as the chapter says.
func packet(p initial.Initial) []byte {
	return slices.Concat(header(p.First, p.Version, p.To, p.From), shortest(len(p.Token)), p.Token, p.Rest)
}

func build(first byte, to, from, token, rest []byte) initial.Initial {
	return initial.Initial{Head: head.Head{First: first, Version: 1, To: to, From: from}, Token: token, Rest: rest}
}

// equal compares Initials field by field, without the package's own Same.
func equal(a, b initial.Initial) bool {
	return a.First == b.First && a.Version == b.Version && bytes.Equal(a.To, b.To) && bytes.Equal(a.From, b.From) &&
		bytes.Equal(a.Token, b.Token) && bytes.Equal(a.Rest, b.Rest)
}

// parses asks whether Parse finds this Initial.
func parses(t *testing.T, b []byte, want initial.Initial) {
	t.Helper()
	if p, e := initial.Parse(b); !equal(p, want) || e != api.OK {
		t.Fatalf("%x: %x, %d, not %x", b, p, e, want)
	}
}

// refuses asks whether Parse has this error, and nothing else.
func refuses(t *testing.T, b []byte, want api.Errno) {
	t.Helper()
	if p, e := initial.Parse(b); !equal(p, initial.Initial{}) || e != want {
		t.Fatalf("%x: %x, %d, not %d", b, p, e, want)
	}
}

// gives asks whether Bytes has this result.
func gives(t *testing.T, p initial.Initial, want []byte, err api.Errno) {
	t.Helper()
	if b, e := p.Bytes(); !bytes.Equal(b, want) || e != err {
		t.Fatalf("%x: %x %d, not %x %d", p, b, e, want, err)
	}
}

// makes asks whether Make has this result.
func makes(t *testing.T, to, from, token, rest []byte, size int, want []byte, err api.Errno) {
	t.Helper()
	if b, e := initial.Make(to, from, token, rest, size); !bytes.Equal(b, want) || e != err {
		t.Fatalf("%x %x %x %x %d: %x %d, not %x %d", to, from, token, rest, size, b, e, want, err)
	}
}

// samples are the chapter's, those of RFC 9001 (Appendix A), and edges of each part.
func samples(t *testing.T) []struct {
	p initial.Initial
	b []byte
} {
	return []struct {
		p initial.Initial
		b []byte
	}{
		{build(0xc0, nil, nil, []byte{7, 8}, []byte{9}), []byte{0xc0, 0, 0, 0, 1, 0, 0, 2, 7, 8, 9}},
		{build(0xc3, raw(t, "8394c8f03e515708"), nil, nil, raw(t, "449e00000002")), raw(t, "c300000001088394c8f03e5157080000449e00000002")},
		{build(0xc0, raw(t, "8394c8f03e515708"), nil, nil, raw(t, "449e7b9aec34")), raw(t, "c000000001088394c8f03e5157080000449e7b9aec34")},
		{build(0xcf, nil, raw(t, "f067a5502a4262b5"), nil, raw(t, "4075c0d9")), raw(t, "cf000000010008f067a5502a4262b5004075c0d9")},
		{build(0x80, nil, nil, nil, nil), raw(t, "8000000001000000")},
		{build(0xc0, raw(t, "aabb"), raw(t, "ccddee"), []byte{0}, nil), raw(t, "c00000000102aabb03ccddee0100")},
		{build(0x8f, []byte{0}, []byte{0}, nil, []byte{0}), raw(t, "8f00000001010001000000")},
		{build(0xc0, mixed(20, 1), mixed(20, 2), mixed(63, 3), mixed(3, 4)), slices.Concat(raw(t, "c00000000114"), mixed(20, 1), []byte{20}, mixed(20, 2), []byte{0x3f}, mixed(63, 3), mixed(3, 4))},
		{build(0xc0, nil, nil, mixed(64, 3), nil), slices.Concat(raw(t, "c00000000100004040"), mixed(64, 3))},
		{build(0xc0, nil, nil, mixed(16383, 3), nil), slices.Concat(raw(t, "c00000000100007fff"), mixed(16383, 3))},
		{build(0xc0, nil, nil, mixed(16384, 3), []byte{1}), slices.Concat(raw(t, "c000000001000080004000"), mixed(16384, 3), []byte{1})},
	}
}

// P11.1, P11.2: the samples, both ways.
func TestSamples(t *testing.T) {
	for _, c := range samples(t) {
		parses(t, c.b, c.p)
		gives(t, c.p, c.b, api.OK)
	}
	token, rest := mixed(70000, 1), mixed(70000, 2) // more than a datagram has
	p := build(0xc0, nil, nil, token, rest)
	b := slices.Concat(raw(t, "c000000001000080011170"), token, rest)
	parses(t, b, p)
	gives(t, p, b, api.OK)
}

// P11.1: two bits alone tell the type.
func TestType(t *testing.T) {
	if initial.TInitial != 0 || initial.TEarly != 1 || initial.THand != 2 || initial.TRetry != 3 {
		t.Error("the types")
	}
	if one := initial.One; one != uint32(1) {
		t.Error("the version", one)
	}
	for first := range 256 {
		want := 0
		if first%64 >= 32 {
			want += 2
		}
		if first%32 >= 16 {
			want++
		}
		if got := initial.Type(byte(first)); got != want {
			t.Errorf("%x: %d, not %d", first, got, want)
		}
	}
}

// P11.1, P11.2: each first byte of an Initial is kept as it is; each other one is of no kind.
func TestFirstBytes(t *testing.T) {
	for first := range 256 {
		p := build(byte(first), []byte{1, 2}, []byte{3}, []byte{4, 5}, []byte{6})
		b := raw(t, "00000000010201020103"+"020405"+"06")
		b[0] = byte(first)
		if first >= 0x80 && first <= 0x8f || first >= 0xc0 && first <= 0xcf {
			parses(t, b, p)
			gives(t, p, b, api.OK)
			continue
		}
		refuses(t, b, api.ErrKind)
		gives(t, p, nil, api.ErrKind)
	}
}

// P11.1, P11.2: no other version has Initials here, whichever of its bits are other ones.
func TestVersions(t *testing.T) {
	versions := []uint32{0, 2, 3, 9, 0x6b3343cf, 0xff00001d, 0x0a0a0a0a, math.MaxUint32, math.MaxUint32 - 1}
	for bit := range 32 {
		v := uint32(1) << bit
		versions = append(versions, v, v|1, v-1, ^v)
	}
	for _, v := range versions {
		if v == 1 {
			continue
		}
		p := build(0xc0, []byte{1}, nil, []byte{2}, []byte{3})
		p.Version = v
		refuses(t, packet(p), api.ErrKind)
		refuses(t, header(0xc0, v, []byte{1}, nil), api.ErrKind) // before the token is missed
		gives(t, p, nil, api.ErrKind)
	}
}

// P11.1, P11.2: ids of up to 20 bytes, each one's length for itself.
func TestIds(t *testing.T) {
	for n := range 256 {
		for _, m := range []int{0, 1, 8, 19, 20, 21, 22, 255, n, 255 - n} {
			p := build(0xc0, mixed(n, 1), mixed(m, 2), mixed(n%7, 3), mixed(m%5, 4))
			if n <= 20 && m <= 20 {
				parses(t, packet(p), p)
				gives(t, p, packet(p), api.OK)
				continue
			}
			refuses(t, packet(p), api.ErrLong)
			gives(t, p, nil, api.ErrLong)
		}
	}
}

// P11.1: of several errors the chapter's first one counts: the header's end, the kind, the ids' lengths, the token's end.
func TestParseOrder(t *testing.T) {
	refuses(t, nil, api.ErrEnd)
	refuses(t, []byte{}, api.ErrEnd)
	refuses(t, []byte{0x40}, api.ErrKind)
	for _, first := range []byte{0x80, 0xc0, 0xd0, 0xff} {
		for _, version := range []uint32{0, 1, 2} {
			for _, n := range []int{0, 20, 21, 255} {
				b := header(first, version, mixed(n, 1), mixed(255-n, 2))
				for k := range b {
					refuses(t, b[:k], api.ErrEnd)
				}
				err := api.ErrLong
				if first >= 0xd0 || version != 1 {
					err = api.ErrKind
				}
				for _, behind := range [][]byte{nil, {0}, {1}, {0x40}, {5, 1, 2}, {255}, {1, 2, 3}} {
					refuses(t, slices.Concat(b, behind), err)
				}
			}
		}
	}
}

// P11.1: a token's length is read in each encoding, also one that is not the shortest, and Bytes takes the shortest.
func TestTokens(t *testing.T) {
	for _, n := range []int{0, 1, 2, 62, 63, 64, 65, 255, 256, 1000, 16382, 16383, 16384, 65535, 65536, 100000} {
		for class := range 4 {
			if n >= 1<<(8<<class-2) {
				continue
			}
			for _, more := range []int{0, 1, 2, 1200} {
				p := build(0xc1, []byte{1}, []byte{2, 3}, mixed(n, 1), mixed(more, 2))
				b := slices.Concat(header(0xc1, 1, p.To, p.From), encoded(uint64(n), class), p.Token, p.Rest)
				parses(t, b, p)
				gives(t, p, packet(p), api.OK)
				if got := len(packet(p)); got > len(b) {
					t.Fatal(n, class, got)
				}
			}
		}
	}
}

// P11.1: what ends within the token or its length is refused, also if the bytes behind its length would do.
func TestTokenEnds(t *testing.T) {
	for _, n := range []int{0, 1, 5, 63, 64, 300} {
		for class := range 4 {
			if n >= 1<<(8<<class-2) {
				continue
			}
			whole := slices.Concat(header(0xc0, 1, []byte{1}, nil), encoded(uint64(n), class), mixed(n, 1))
			for k := range whole {
				refuses(t, whole[:k], api.ErrEnd)
				refuses(t, whole[:k:k], api.ErrEnd)
			}
			parses(t, whole, build(0xc0, []byte{1}, nil, mixed(n, 1), nil))
		}
	}
	for _, n := range []uint64{1201, 1 << 14, 65535, 65536, 1<<31 - 1, 1 << 31, 1<<32 - 1, 1 << 32, 1<<32 + 1, 1<<61 - 1, 1 << 61, 1<<62 - 1} {
		for class := range 4 {
			if n < 1<<(8<<class-2) {
				refuses(t, slices.Concat(header(0xc0, 1, nil, nil), encoded(n, class), mixed(1200, 1)), api.ErrEnd)
			}
		}
	}
}

// shorts is a header's id and what is behind it; false if the bytes end first.
func shorts(b []byte) ([]byte, []byte, bool) {
	if len(b) == 0 || len(b) < 1+int(b[0]) {
		return nil, nil, false
	}
	return b[1 : 1+b[0]], b[1+int(b[0]):], true
}

// longs is a token and what is behind it, in the same way.
func longs(b []byte) ([]byte, []byte, bool) {
	if len(b) == 0 || len(b) < 1<<(b[0]>>6) {
		return nil, nil, false
	}
	size := 1 << (b[0] >> 6)
	n := uint64(b[0] % 64)
	for _, x := range b[1:size] {
		n = n*256 + uint64(x)
	}
	if n > uint64(len(b)-size) {
		return nil, nil, false
	}
	return b[size : size+int(n)], b[size+int(n):], true
}

// expected is what the chapter's words say of bytes, taken one after the other.
func expected(b []byte) (initial.Initial, api.Errno) {
	var none initial.Initial
	if len(b) == 0 {
		return none, api.ErrEnd
	}
	if b[0] < 128 {
		return none, api.ErrKind
	}
	if len(b) < 5 {
		return none, api.ErrEnd
	}
	to, b1, ok1 := shorts(b[5:])
	from, b2, ok2 := shorts(b1)
	if !ok1 || !ok2 {
		return none, api.ErrEnd
	}
	if !bytes.Equal(b[1:5], []byte{0, 0, 0, 1}) || b[0]&0x30 != 0 {
		return none, api.ErrKind
	}
	if len(to) > 20 || len(from) > 20 {
		return none, api.ErrLong
	}
	token, rest, ok := longs(b2)
	if !ok {
		return none, api.ErrEnd
	}
	return build(b[0], to, from, token, rest), api.OK
}

// P11.1: any bytes at all, against the chapter's words; what is parsed is built again, but for its token's length.
func TestParseAnyBytes(t *testing.T) {
	seen := map[api.Errno]int{}
	for seed := range uint64(40000) {
		b := mixed(int(seed%70), seed)
		for i := range b {
			switch {
			case i == 0 && seed%5 > 0:
				b[i] = b[i]&0x4f | 0x80
			case i > 0 && i < 5 && seed%7 > 0:
				b[i] = byte(i / 4)
			case i > 4 && seed%3 > 0:
				b[i] %= 24 // lengths that often fit
			case i > 4 && seed%3 == 0:
				b[i] &= 0xc7 // and tokens' lengths of each class
			}
		}
		p, e := expected(b)
		seen[e]++
		if e != api.OK {
			refuses(t, b, e)
			continue
		}
		parses(t, b, p)
		gives(t, p, packet(p), api.OK)
		parses(t, packet(p), p)
	}
	for _, e := range []api.Errno{api.OK, api.ErrEnd, api.ErrKind, api.ErrLong} {
		if seen[e] < 500 {
			t.Error(seen)
		}
	}
}

// P11.2: first what is no Initial is refused, then what is too long, in either id, also if its length's low byte would do.
func TestBytesRefused(t *testing.T) {
	for _, c := range []struct {
		first   byte
		version uint32
		err     api.Errno
	}{
		{0xc0, 1, api.ErrLong}, {0x8f, 1, api.ErrLong},
		{0x40, 1, api.ErrKind}, {0x00, 1, api.ErrKind}, {0x4f, 1, api.ErrKind},
		{0xc0, 0, api.ErrKind}, {0xc0, 2, api.ErrKind}, {0xc0, 1 << 24, api.ErrKind},
		{0xd0, 1, api.ErrKind}, {0xe0, 1, api.ErrKind}, {0xf0, 1, api.ErrKind}, {0x90, 1, api.ErrKind},
	} {
		for _, n := range []int{21, 22, 40, 255, 256, 257, 276, 512, 65535, 65536} {
			for _, ids := range [][2][]byte{{make([]byte, n), nil}, {nil, make([]byte, n)}, {make([]byte, n), make([]byte, n)}, {make([]byte, 20), make([]byte, n)}, {make([]byte, n), make([]byte, 20)}} {
				p := build(c.first, ids[0], ids[1], []byte{1}, []byte{2})
				p.Version = c.version
				gives(t, p, nil, c.err)
			}
		}
		if c.err == api.ErrKind {
			p := build(c.first, []byte{1}, []byte{2}, []byte{3}, []byte{4})
			p.Version = c.version
			gives(t, p, nil, api.ErrKind)
		}
	}
	gives(t, initial.Initial{}, nil, api.ErrKind)
}

// P11.2: Make fills up with zeros, and never cuts.
func TestMake(t *testing.T) {
	for _, c := range []struct{ to, from, token, rest []byte }{
		{nil, nil, nil, nil},
		{[]byte{}, []byte{}, []byte{}, []byte{}},
		{nil, nil, []byte{7, 8}, []byte{9}},
		{mixed(8, 1), nil, nil, mixed(30, 2)},
		{nil, mixed(8, 1), mixed(64, 2), nil},
		{mixed(20, 1), mixed(20, 2), mixed(100, 3), mixed(1000, 4)},
	} {
		b := packet(build(0xc0, c.to, c.from, c.token, c.rest))
		sizes := []int{math.MinInt, math.MinInt + 1, math.MinInt + len(b), -1 << 32, -65536, -5, -1, 0, 1, 1200, 65534, 65535}
		for k := range 5 {
			sizes = append(sizes, len(b)+k-2)
		}
		for _, size := range sizes {
			want := b
			if size > len(b) {
				want = slices.Concat(b, make([]byte, size-len(b)))
			}
			makes(t, c.to, c.from, c.token, c.rest, size, want, api.OK)
			parses(t, want, build(0xc0, c.to, c.from, c.token, slices.Concat(c.rest, want[len(b):])))
		}
	}
	makes(t, []byte{5}, nil, []byte{7}, []byte{9}, 14, []byte{0xc0, 0, 0, 0, 1, 1, 5, 0, 1, 7, 9, 0, 0, 0}, api.OK)
}

// P11.2: only the size has a bound, not what there is without zeros.
func TestMakeOfMuch(t *testing.T) {
	token, rest := mixed(65536, 1), mixed(65536, 2)
	want := slices.Concat(raw(t, "c000000001000080010000"), token, rest)
	for _, size := range []int{-1, 0, 1200, 65535} {
		makes(t, nil, nil, token, rest, size, want, api.OK)
	}
}

// P11.2: first a size that is too great is refused, then an id that is too long.
func TestMakeRefused(t *testing.T) {
	long := make([]byte, 21)
	for _, size := range []int{65536, 65537, 131072, 1 << 31, 1 << 32, 1<<32 + 1200, math.MaxInt - 1, math.MaxInt} {
		makes(t, nil, nil, nil, nil, size, nil, api.ErrRange)
		makes(t, nil, nil, mixed(70000, 1), mixed(70000, 2), size, nil, api.ErrRange)
		makes(t, long, nil, nil, nil, size, nil, api.ErrRange)
		makes(t, nil, long, nil, nil, size, nil, api.ErrRange)
	}
	for _, size := range []int{math.MinInt, -1, 0, 1200, 65535} {
		for _, n := range []int{21, 22, 255, 256, 276, 65536} {
			makes(t, make([]byte, n), nil, nil, nil, size, nil, api.ErrLong)
			makes(t, nil, make([]byte, n), []byte{1}, []byte{2}, size, nil, api.ErrLong)
			makes(t, make([]byte, n), make([]byte, n), nil, nil, size, nil, api.ErrLong)
		}
		b, e := initial.Make(long[:20], long[:20], nil, nil, size)
		if len(b) != max(size, 48) || e != api.OK {
			t.Error(size, len(b), e)
		}
	}
}

// P11.2: Initials are equal if all their fields are, and a nil slice is an empty one.
func TestSame(t *testing.T) {
	list := []initial.Initial{
		{}, {Head: head.Head{First: 0xc0}}, {Head: head.Head{First: 0xc1}}, {Head: head.Head{Version: 1}}, {Head: head.Head{Version: 1 << 31}},
		{Head: head.Head{To: []byte{0}}}, {Head: head.Head{To: []byte{1, 2}}}, {Head: head.Head{To: []byte{2, 1}}},
		{Head: head.Head{From: []byte{0}}}, {Head: head.Head{From: []byte{1, 2}}}, {Head: head.Head{From: []byte{2, 1}}},
		{Token: []byte{0}}, {Token: []byte{0, 0}}, {Token: []byte{1, 2}}, {Token: []byte{2, 1}},
		{Rest: []byte{0}}, {Rest: []byte{0, 0}}, {Rest: []byte{1, 2}}, {Rest: []byte{2, 1}},
		{Token: []byte{1}, Rest: []byte{2}}, {Token: []byte{2}, Rest: []byte{1}}, {Token: []byte{1}, Rest: []byte{1}},
		build(0xc0, mixed(20, 1), mixed(20, 2), mixed(300, 3), mixed(300, 4)), build(0xc1, mixed(20, 1), mixed(20, 2), mixed(300, 3), mixed(300, 4)),
		build(0xc0, mixed(20, 2), mixed(20, 2), mixed(300, 3), mixed(300, 4)), build(0xc0, mixed(20, 1), mixed(20, 1), mixed(300, 3), mixed(300, 4)),
		build(0xc0, mixed(20, 1), mixed(20, 2), mixed(299, 3), mixed(300, 4)), build(0xc0, mixed(20, 1), mixed(20, 2), mixed(300, 3), mixed(299, 4)),
		build(0xc0, mixed(20, 1), mixed(20, 2), mixed(300, 4), mixed(300, 3)),
		build(0x40, mixed(300, 1), mixed(300, 2), nil, nil), build(0x40, mixed(300, 2), mixed(300, 1), nil, nil),
	}
	for i, a := range list {
		for j, b := range list {
			for _, part := range []*[]byte{&b.To, &b.From, &b.Token, &b.Rest} {
				*part = append([]byte{}, *part...)
			}
			if initial.Same(a, b) != (i == j) || initial.Same(b, a) != (i == j) {
				t.Error(i, j)
			}
		}
	}
}

// P11.2: a change of any byte is a difference, wherever it stands.
func TestSameOfEachByte(t *testing.T) {
	change := func(field int, at int) initial.Initial {
		p := build(0xc0, mixed(20, 1), mixed(20, 2), mixed(90, 3), mixed(90, 4))
		[][]byte{p.To, p.From, p.Token, p.Rest}[field][at] ^= 1 << (at % 8)
		return p
	}
	a := build(0xc0, mixed(20, 1), mixed(20, 2), mixed(90, 3), mixed(90, 4))
	for field, n := range []int{20, 20, 90, 90} {
		for at := range n {
			b := change(field, at)
			if initial.Same(a, b) || initial.Same(b, a) || !initial.Same(b, change(field, at)) {
				t.Error(field, at)
			}
		}
	}
}

// P11.1, P11.2: arguments stay as they are, also behind their length.
func TestArgumentsStay(t *testing.T) {
	for _, s := range []string{"c000000001020708000201020304", "c00000000102070800020102", "c000000001020708000501", "c0000000010207080400aa", "d000000001020708000201", "40", "c0"} {
		whole := raw(t, s+"a5a5a5a5")
		initial.Parse(whole[:len(s)/2])
		if !bytes.Equal(whole, raw(t, s+"a5a5a5a5")) {
			t.Errorf("%s: %x", s, whole)
		}
	}
	all := mixed(600, 1)
	for _, n := range []int{0, 1, 8, 20, 21, 100} {
		for _, first := range []byte{0xc0, 0x40} {
			p := build(first, all[:n], all[100:100+n], all[200:200+n], all[300:300+n])
			p.Bytes()
			initial.Same(p, build(first, all[:n], all[100:100+n], all[200:200+n], all[1:1+n]))
			for _, size := range []int{-1, 0, 60, 500, 65536} {
				initial.Make(p.To, p.From, p.Token, p.Rest, size)
			}
			if !bytes.Equal(all, mixed(600, 1)) || !equal(p, build(first, all[:n], all[100:100+n], all[200:200+n], all[300:300+n])) {
				t.Error(n, first)
			}
		}
	}
}

// P11.2: what Parse gives shares no memory: not with its argument, nor one part with another, to the end of their capacity.
func TestParsedIsNew(t *testing.T) {
	b := raw(t, "c000000001"+"020708"+"03aabbcc"+"0401020304"+"0506070809")
	want := slices.Clone(b)
	for at := range 4 {
		p, e := initial.Parse(b)
		if e != api.OK {
			t.Fatal(e)
		}
		others := slices.Delete([][]byte{p.To, p.From, p.Token, p.Rest}, at, at+1)
		before := slices.Concat(others...)
		spoil([][]byte{p.To, p.From, p.Token, p.Rest}[at])
		if got := slices.Concat(others...); !bytes.Equal(got, before) || !bytes.Equal(b, want) {
			t.Errorf("%d: %x, not %x; %x", at, got, before, b)
		}
	}
	p, _ := initial.Parse(b)
	spoil(b)
	if !equal(p, build(0xc0, []byte{7, 8}, raw(t, "aabbcc"), []byte{1, 2, 3, 4}, []byte{5, 6, 7, 8, 9})) {
		t.Errorf("%x", p)
	}
}

// P11.2: what Bytes and Make give is new memory each time, to the end of its capacity.
func TestBytesAreNew(t *testing.T) {
	p := build(0xc0, []byte{7, 8}, raw(t, "aabbcc"), []byte{1, 2, 3, 4}, []byte{5, 6})
	made := func(size int) func() ([]byte, api.Errno) {
		return func() ([]byte, api.Errno) { return initial.Make(p.To, p.From, p.Token, p.Rest, size) }
	}
	calls := []func() ([]byte, api.Errno){p.Bytes, made(0), made(19), made(20), made(1200)}
	var kept [][]byte
	for i, call := range calls {
		first, _ := call()
		second, _ := call()
		want := slices.Clone(first)
		spoil(first)
		third, e := call()
		if len(want) < 19 || !bytes.Equal(second, want) || !bytes.Equal(third, want) || e != api.OK {
			t.Errorf("%d: %x, then %x and %x", i, want, second, third)
		}
		kept = append(kept, third)
	}
	before := slices.Concat(kept...)
	for _, part := range [][]byte{p.To, p.From, p.Token, p.Rest} {
		spoil(part)
	}
	if got := slices.Concat(kept...); !bytes.Equal(got, before) {
		t.Errorf("%x, not %x", got, before)
	}
}

// P11.1, P11.2: calls of many goroutines do no harm to each other.
func TestAtOnce(t *testing.T) {
	p := build(0xc5, mixed(20, 1), mixed(20, 2), mixed(200, 3), mixed(1200, 4))
	b := packet(p)
	var all sync.WaitGroup
	for range 8 {
		all.Go(func() {
			for range 50 {
				q, e := initial.Parse(b)
				again, _ := q.Bytes()
				if e != api.OK || !equal(p, q) || !bytes.Equal(again, b) || !initial.Same(p, q) {
					t.Errorf("%x %d", q, e)
				}
				if made, e := initial.Make(p.To, p.From, p.Token, p.Rest, 1300); !bytes.Equal(made[1:], b[1:]) || e != api.OK {
					t.Errorf("%x %d", made, e)
				}
			}
		})
	}
	all.Wait()
}
