package head_test

import (
	"bytes"
	"encoding/binary"
	"encoding/hex"
	"math"
	"slices"
	"sync"
	"testing"

	"crossway/api"
	"crossway/head"
)

func raw(t *testing.T, s string) []byte {
	t.Helper()
	b, err := hex.DecodeString(s)
	if err != nil {
		t.Fatal(s, err)
	}
	return b
}

// mixed are n bytes without a pattern; others for another seed.
func mixed(n int, seed uint64) []byte {
	b := make([]byte, n)
	for i := range b {
		seed = seed*6364136223846793005 + 1442695040888963407
		b[i] = byte(seed >> 40)
	}
	return b
}

// spoil writes over a slice, its spare capacity too. It counts up, so that a second time doesn't undo the first.
func spoil(b []byte) {
	b = b[:cap(b)]
	for i := range b {
		b[i]++
	}
}

// parts are a header's bytes, laid out as the chapter says.
func parts(first byte, version uint32, to, from []byte) []byte {
	b := binary.BigEndian.AppendUint32([]byte{first}, version)
	return slices.Concat(b, []byte{byte(len(to))}, to, []byte{byte(len(from))}, from)
}

// equal compares headers field by field, without the package's own Same.
func equal(a, b head.Head) bool {
	return a.First == b.First && a.Version == b.Version && bytes.Equal(a.To, b.To) && bytes.Equal(a.From, b.From)
}

// parses asks whether Parse finds this header, and these bytes after it.
func parses(t *testing.T, b []byte, want head.Head, behind []byte) {
	t.Helper()
	if h, rest, e := head.Parse(b); !equal(h, want) || !bytes.Equal(rest, behind) || e != api.OK {
		t.Fatalf("%x: %x, then %x, %d", b, h, rest, e)
	}
}

// refuses asks whether Parse has this error, and nothing else.
func refuses(t *testing.T, b []byte, want api.Errno) {
	t.Helper()
	if h, rest, e := head.Parse(b); !equal(h, head.Head{}) || len(rest) != 0 || e != want {
		t.Fatalf("%x: %x, then %x, %d, not %d", b, h, rest, e, want)
	}
}

// gives asks whether Bytes has this result.
func gives(t *testing.T, h head.Head, want []byte, err api.Errno) {
	t.Helper()
	if b, e := h.Bytes(); !bytes.Equal(b, want) || e != err {
		t.Fatalf("%x: %x %d, not %x %d", h, b, e, want, err)
	}
}

// finds asks whether Id has this result.
func finds(t *testing.T, b []byte, n int, want []byte, err api.Errno) {
	t.Helper()
	if id, e := head.Id(b, n); !bytes.Equal(id, want) || e != err {
		t.Fatalf("%x, %d: %x %d, not %x %d", b, n, id, e, want, err)
	}
}

// samples are the chapter's, those of RFC 9001 (Appendix A), and edges of each part.
func samples(t *testing.T) []struct {
	h head.Head
	b []byte
} {
	return []struct {
		h head.Head
		b []byte
	}{
		{head.Head{First: 0xc0, Version: 1, To: []byte{7, 8}}, []byte{0xc0, 0, 0, 0, 1, 2, 7, 8, 0}},
		{head.Head{First: 0xc0, Version: 1, To: raw(t, "8394c8f03e515708")}, raw(t, "c000000001088394c8f03e51570800")},
		{head.Head{First: 0xcf, Version: 1, From: raw(t, "f067a5502a4262b5")}, raw(t, "cf000000010008f067a5502a4262b5")},
		{head.Head{First: 0x80}, raw(t, "80000000000000")},
		{head.Head{First: 0xff, Version: math.MaxUint32}, raw(t, "ffffffffff0000")},
		{head.Head{First: 0x80, Version: 0x01020304, To: []byte{0}, From: []byte{0, 0}}, raw(t, "80010203040100020000")},
		{head.Head{First: 0xa5, Version: 0x80000000, To: raw(t, "aabb"), From: raw(t, "ccddee")}, raw(t, "a58000000002aabb03ccddee")},
		{head.Head{First: 0x80, Version: 9, To: bytes.Repeat([]byte{255}, 255)}, slices.Concat(raw(t, "8000000009ff"), bytes.Repeat([]byte{255}, 255), []byte{0})},
		{head.Head{First: 0x80, Version: 9, From: bytes.Repeat([]byte{255}, 255)}, slices.Concat(raw(t, "800000000900ff"), bytes.Repeat([]byte{255}, 255))},
	}
}

// P10.1, P10.2: the samples, both ways.
func TestSamples(t *testing.T) {
	for _, c := range samples(t) {
		gives(t, c.h, c.b, api.OK)
		for _, behind := range [][]byte{nil, {0}, {0x80}, raw(t, "00449e7b9aec34"), c.b, mixed(65535, 3)} {
			parses(t, slices.Concat(c.b, behind), c.h, behind)
		}
	}
}

// P10.1: the first byte alone tells, for each of them, whatever follows it.
func TestLong(t *testing.T) {
	for first := range 256 {
		for _, behind := range [][]byte{nil, {0}, {0x7f}, {0x80}, {255}, mixed(1500, 1)} {
			b := append([]byte{byte(first)}, behind...)
			if got := head.Long(b); got != (first >= 128) {
				t.Errorf("%x: %t", b, got)
			}
		}
	}
	for _, b := range [][]byte{nil, {}, bytes.Repeat([]byte{255}, 8)[:0]} {
		if head.Long(b) {
			t.Error(b)
		}
	}
}

// P10.1: ids of each length, with either one longer, whatever follows them.
func TestParse(t *testing.T) {
	for n := range 256 {
		for _, m := range []int{0, 1, 20, 21, 127, 128, 255, n, 255 - n} {
			first, version := byte(128+n%128), uint32(n*m)*2654435761+1
			to, from, behind := mixed(n, 1), mixed(m, 2), mixed(n%5, 3)
			h := head.Head{First: first, Version: version, To: to, From: from}
			parses(t, slices.Concat(parts(first, version, to, from), behind), h, behind)
		}
	}
}

// P10.1: each first byte of a long header is kept as it is; each other one is of no kind, also where nothing follows it.
func TestParseFirstBytes(t *testing.T) {
	for first := range 256 {
		b := append([]byte{byte(first)}, raw(t, "0000000102aabb01cc0102")...)
		if first >= 128 {
			parses(t, b, head.Head{First: byte(first), Version: 1, To: []byte{0xaa, 0xbb}, From: []byte{0xcc}}, []byte{1, 2})
			refuses(t, b[:1], api.ErrEnd)
			continue
		}
		for n := 1; n <= len(b); n++ {
			refuses(t, b[:n], api.ErrKind)
		}
	}
}

// P10.1: each byte of the version counts, in its order.
func TestParseVersions(t *testing.T) {
	for bit := range 32 {
		v := uint32(1) << bit
		for _, version := range []uint32{v, v - 1, ^v, v | 0x6b3343cf} {
			h := head.Head{First: 0xc0, Version: version, To: []byte{1}}
			b := parts(0xc0, version, []byte{1}, nil)
			parses(t, b, h, nil)
			gives(t, h, b, api.OK)
		}
	}
}

// P10.1: a header that is cut anywhere is refused, also if the bytes behind its length would do.
func TestParseEnds(t *testing.T) {
	refuses(t, nil, api.ErrEnd)
	refuses(t, []byte{}, api.ErrEnd)
	for _, c := range samples(t) {
		for n := range c.b {
			refuses(t, c.b[:n], api.ErrEnd)
			refuses(t, slices.Clone(c.b[:n]), api.ErrEnd)
		}
	}
	for n := range 256 {
		b := parts(0x80, 1, mixed(n, 1), mixed(255-n, 2))
		for _, k := range []int{n / 2, n, 5, n + 5, n + 6, n + 7, len(b) - 1} {
			refuses(t, b[:min(k, len(b)-1)], api.ErrEnd)
		}
	}
}

// P10.1: any bytes at all, against the chapter's words, taken byte by byte.
func TestParseAnyBytes(t *testing.T) {
	for seed := range uint64(20000) {
		b := mixed(int(seed%60), seed)
		for i := range b {
			if i > 4 && seed%3 > 0 {
				b[i] %= 24 // lengths that often fit
			}
		}
		switch {
		case len(b) == 0:
			refuses(t, b, api.ErrEnd)
		case b[0] < 128:
			refuses(t, b, api.ErrKind)
		case len(b) < 6 || len(b) < 7+int(b[5]) || len(b) < 7+int(b[5])+int(b[6+int(b[5])]):
			refuses(t, b, api.ErrEnd)
		default:
			n := int(b[5])
			m := int(b[6+n])
			h := head.Head{First: b[0], Version: binary.BigEndian.Uint32(b[1:]), To: b[6 : 6+n], From: b[7+n : 7+n+m]}
			parses(t, b, h, b[7+n+m:])
			gives(t, h, b[:7+n+m], api.OK)
		}
	}
}

// P10.2: ids of each length, in their order.
func TestBytes(t *testing.T) {
	for n := range 256 {
		for _, m := range []int{0, 1, 20, 128, 255, n, 255 - n} {
			to, from := mixed(n, 1), mixed(m, 2)
			gives(t, head.Head{First: byte(255 - n/2), Version: uint32(n), To: to, From: from}, parts(byte(255-n/2), uint32(n), to, from), api.OK)
		}
	}
	gives(t, head.Head{First: 0x80, To: []byte{}, From: []byte{}}, raw(t, "80000000000000"), api.OK)
}

// P10.2: first what is no long header is refused, then what is too long, in either id, also if its length's low byte would do.
func TestBytesRefused(t *testing.T) {
	for first := range 256 {
		err := api.ErrLong
		if first < 128 {
			err = api.ErrKind
			gives(t, head.Head{First: byte(first), Version: 1, To: []byte{1}}, nil, err)
			gives(t, head.Head{First: byte(first)}, nil, err)
		}
		for _, n := range []int{256, 257, 511, 512, 65535, 65536} {
			long := make([]byte, n)
			gives(t, head.Head{First: byte(first), Version: 1, To: long}, nil, err)
			gives(t, head.Head{First: byte(first), Version: 1, From: long}, nil, err)
			gives(t, head.Head{First: byte(first), Version: 1, To: long, From: long}, nil, err)
			gives(t, head.Head{First: byte(first), Version: 1, To: make([]byte, 255), From: long}, nil, err)
		}
	}
	gives(t, head.Head{}, nil, api.ErrKind)
}

// P10.2: each length that there is, whether the bytes are just enough, or more, and for short and long headers.
func TestId(t *testing.T) {
	for _, first := range []byte{0, 0x40, 0x7f, 0x80, 0xc0, 255} {
		for n := range 256 {
			for _, more := range []int{0, 1, 2, 300} {
				b := append([]byte{first}, mixed(n+more, uint64(n))...)
				finds(t, b, n, b[1:n+1], api.OK)
			}
		}
	}
	finds(t, []byte{7}, 0, nil, api.OK)
	finds(t, []byte{1, 2, 3}, 2, []byte{2, 3}, api.OK)
	finds(t, mixed(65536, 1), 255, mixed(65536, 1)[1:256], api.OK)
}

// P10.2: too few bytes are refused, also if those behind their length would do; even no bytes of none need the first one.
func TestIdEnds(t *testing.T) {
	whole := mixed(600, 1)
	for n := range 256 {
		for have := range n + 1 {
			finds(t, whole[:have], n, nil, api.ErrEnd)
			finds(t, whole[:have:have], n, nil, api.ErrEnd)
		}
	}
	finds(t, nil, 0, nil, api.ErrEnd)
	finds(t, []byte{}, 0, nil, api.ErrEnd)
}

// P10.2: a length that there isn't is refused first, however many bytes there are.
func TestIdOfNoLength(t *testing.T) {
	for _, n := range []int{math.MinInt, math.MinInt + 1, -1 << 32, -1<<32 + 2, -256, -255, -2, -1, 256, 257, 300, 511, 512, 65536, 1 << 32, 1<<32 + 2, math.MaxInt - 1, math.MaxInt} {
		for _, have := range []int{0, 1, 2, 255, 256, 257, 258, 70000} {
			finds(t, make([]byte, have), n, nil, api.ErrRange)
		}
	}
}

// P10.2: headers are equal if all their fields are, and a nil id is an empty one.
func TestSame(t *testing.T) {
	list := []head.Head{
		{}, {First: 0x80}, {First: 0x81}, {Version: 1}, {Version: 1 << 31}, {Version: 128},
		{To: []byte{0}}, {To: []byte{0, 0}}, {To: []byte{1}}, {To: []byte{1, 2}}, {To: []byte{2, 1}},
		{From: []byte{0}}, {From: []byte{0, 0}}, {From: []byte{1}}, {From: []byte{1, 2}}, {From: []byte{2, 1}},
		{To: []byte{1}, From: []byte{2}}, {To: []byte{2}, From: []byte{1}}, {To: []byte{1}, From: []byte{1}},
		{First: 0xc0, Version: 1, To: mixed(255, 1), From: mixed(255, 2)}, {First: 0xc0, Version: 1, To: mixed(255, 2), From: mixed(255, 1)},
		{First: 0xc0, Version: 1, To: mixed(300, 1), From: mixed(300, 2)}, {First: 0x40, Version: 1, To: mixed(255, 1), From: mixed(255, 2)},
		{First: 0xc0, Version: 2, To: mixed(255, 1), From: mixed(255, 2)}, {First: 0xc0, Version: 1, To: mixed(254, 1), From: mixed(255, 2)},
	}
	for i, a := range list {
		for j, b := range list {
			b.To, b.From = append([]byte{}, b.To...), append([]byte{}, b.From...)
			if got := head.Same(a, b); got != (i == j) {
				t.Error(i, j, got)
			}
			if got := head.Same(b, a); got != (i == j) {
				t.Error(j, i, got)
			}
		}
	}
}

// P10.2: a change of any byte is a difference, wherever it stands.
func TestSameOfEachByte(t *testing.T) {
	b := parts(0xff, 0x01020304, mixed(40, 1), mixed(40, 2))
	a, _, _ := head.Parse(b)
	for i := range b {
		if i == 5 || i == 46 { // a length
			continue
		}
		for bit := range 8 {
			c := slices.Clone(b)
			c[i] ^= 1 << bit
			h, _, e := head.Parse(c)
			if i == 0 && bit == 7 {
				h, e = head.Head{First: c[0], Version: a.Version, To: a.To, From: a.From}, api.OK
			}
			if e != api.OK || head.Same(a, h) || head.Same(h, a) || !head.Same(h, h) {
				t.Error(i, bit, e)
			}
		}
	}
}

// P10.1, P10.2: arguments stay as they are, also behind their length.
func TestArgumentsStay(t *testing.T) {
	for _, s := range []string{"c00000000102070800aabb", "c0000000010207080400aa", "400000000102070800aabb", "c0"} {
		whole := raw(t, s+"a5a5a5a5")
		b := whole[:len(s)/2]
		head.Long(b)
		head.Parse(b)
		for n := -1; n < 12; n++ {
			head.Id(b, n)
		}
		if !bytes.Equal(whole, raw(t, s+"a5a5a5a5")) {
			t.Errorf("%s: %x", s, whole)
		}
	}
	ids := mixed(600, 1)
	for _, n := range []int{0, 1, 8, 255, 256} {
		for _, first := range []byte{0x40, 0x80} {
			h := head.Head{First: first, Version: 1, To: ids[:n], From: ids[300 : 300+n]}
			h.Bytes()
			head.Same(h, head.Head{First: first, Version: 1, To: ids[:n], From: ids[1 : 1+n]})
			if !bytes.Equal(ids, mixed(600, 1)) || h.First != first || h.Version != 1 || len(h.To) != n || len(h.From) != n {
				t.Error(n, first)
			}
		}
	}
}

// P10.2: what Parse gives shares no memory: not with its argument, nor one part with another, to the end of their capacity.
func TestParsedIsNew(t *testing.T) {
	b := raw(t, "c000000001"+"020708"+"03aabbcc"+"0102030405")
	want := slices.Clone(b)
	for at := range 3 {
		h, rest, e := head.Parse(b)
		if e != api.OK {
			t.Fatal(e)
		}
		parts := [][]byte{h.To, h.From, rest}
		others := slices.Concat(slices.Delete(slices.Clone(parts), at, at+1)...)
		spoil(parts[at])
		if got := slices.Concat(slices.Delete(slices.Clone(parts), at, at+1)...); !bytes.Equal(got, others) || !bytes.Equal(b, want) {
			t.Errorf("%d: %x, not %x; %x", at, got, others, b)
		}
	}
	h, rest, _ := head.Parse(b)
	spoil(b)
	if !equal(h, head.Head{First: 0xc0, Version: 1, To: []byte{7, 8}, From: raw(t, "aabbcc")}) || !bytes.Equal(rest, raw(t, "0102030405")) {
		t.Errorf("%x %x", h, rest)
	}
}

// P10.2: what Bytes and Id give is new memory each time, to the end of its capacity.
func TestBytesAreNew(t *testing.T) {
	packet := raw(t, "c00000000102070803aabbcc0102")
	h := head.Head{First: 0xc0, Version: 1, To: []byte{7, 8}, From: raw(t, "aabbcc")}
	for name, call := range map[string]func() ([]byte, api.Errno){
		"Bytes":     h.Bytes,
		"Id":        func() ([]byte, api.Errno) { return head.Id(packet, 5) },
		"Id, whole": func() ([]byte, api.Errno) { return head.Id(packet, len(packet)-1) },
	} {
		first, _ := call()
		second, _ := call()
		want := slices.Clone(first)
		spoil(first)
		third, e := call()
		if !bytes.Equal(second, want) || !bytes.Equal(third, want) || e != api.OK {
			t.Errorf("%s: %x, then %x and %x", name, want, second, third)
		}
	}
	id, _ := head.Id(packet, 5)
	b, _ := h.Bytes()
	spoil(packet)
	spoil(h.To)
	spoil(h.From)
	if !bytes.Equal(id, raw(t, "0000000102")) || !bytes.Equal(b, raw(t, "c00000000102070803aabbcc")) {
		t.Errorf("%x %x", id, b)
	}
}

// P10.1, P10.2: calls of many goroutines do no harm to each other.
func TestAtOnce(t *testing.T) {
	b := slices.Concat(parts(0xc0, 1, mixed(20, 1), mixed(20, 2)), mixed(1200, 3))
	var all sync.WaitGroup
	for range 8 {
		all.Go(func() {
			for range 50 {
				h, rest, e := head.Parse(b)
				again, _ := h.Bytes()
				if e != api.OK || !bytes.Equal(slices.Concat(again, rest), b) || !head.Long(b) || !head.Same(h, h) {
					t.Errorf("%x %x %d", h, rest, e)
				}
				if id, e := head.Id(b, 20); !bytes.Equal(id, b[1:21]) || e != api.OK {
					t.Errorf("%x %d", id, e)
				}
			}
		})
	}
	all.Wait()
}
