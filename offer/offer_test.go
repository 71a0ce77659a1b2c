package offer_test

import (
	"bytes"
	"encoding/binary"
	"encoding/hex"
	"math"
	"slices"
	"sync"
	"testing"

	"crossway/api"
	"crossway/head"
	"crossway/offer"
)

func raw(t *testing.T, s string) []byte {
	t.Helper()
	b, err := hex.DecodeString(s)
	if err != nil {
		t.Fatal(s, err)
	}
	return b
}

// mixed are n bytes without a pattern; others for another seed.
func mixed(n int, seed uint64) []byte {
	b := make([]byte, n)
	for i := range b {
		seed = seed*6364136223846793005 + 1442695040888963407
		b[i] = byte(seed >> 40)
	}
	return b
}

// several are n versions without a pattern; others for another seed.
func several(n int, seed uint64) []uint32 {
	out := make([]uint32, n)
	for i, b := range slices.Collect(slices.Chunk(mixed(4*n, seed), 4)) {
		out[i] = binary.BigEndian.Uint32(b)
	}
	return out
}

// spoil writes over a slice, its spare capacity too. It counts up, so that a second time doesn't undo the first.
func spoil[T byte | uint32](b []T) {
	b = b[:cap(b)]
	for i := range b {
		b[i]++
	}
}

// header are a long header's bytes, laid out as layer 10's chapter says.
func header(first byte, version uint32, to, from []byte) []byte {
	b := binary.BigEndian.AppendUint32([]byte{first}, version)
	return slices.Concat(b, []byte{byte(len(to))}, to, []byte{byte(len(from))}, from)
}

// packet are an offer's bytes, laid out as the chapter says.
func packet(first byte, to, from []byte, versions ...uint32) []byte {
	b := header(first, 0, to, from)
	for _, v := range versions {
		b = append(b, byte(v>>24), byte(v>>16), byte(v>>8), byte(v))
	}
	return b
}

func build(first byte, to, from []byte) head.Head {
	return head.Head{First: first, To: to, From: from}
}

func equal(a, b head.Head) bool {
	return a.First == b.First && a.Version == b.Version && bytes.Equal(a.To, b.To) && bytes.Equal(a.From, b.From)
}

// makes asks whether Make has this result.
func makes(t *testing.T, first byte, to, from []byte, versions []uint32, want []byte, err api.Errno) {
	t.Helper()
	if b, e := offer.Make(first, to, from, versions...); !bytes.Equal(b, want) || e != err {
		t.Fatalf("%x %d %d %d: %x %d, not %x %d", first, len(to), len(from), len(versions), b, e, want, err)
	}
}

// parses asks whether Parse finds this header, and these versions, which Has finds too.
func parses(t *testing.T, b []byte, want head.Head, versions ...uint32) {
	t.Helper()
	if h, list, e := offer.Parse(b); !equal(h, want) || !slices.Equal(list, versions) || e != api.OK {
		t.Fatalf("%x: %x, %x, %d, not %x, %x", b, h, list, e, want, versions)
	}
	for _, v := range []uint32{versions[0], versions[len(versions)/2], versions[len(versions)-1], 0, 1, versions[0] + 1} {
		has(t, b, v, slices.Contains(versions, v))
	}
}

// refuses asks whether Parse has this error, and nothing else, and Has finds no version.
func refuses(t *testing.T, b []byte, want api.Errno) {
	t.Helper()
	if h, list, e := offer.Parse(b); !equal(h, head.Head{}) || len(list) != 0 || e != want {
		t.Fatalf("%x: %x, %x, %d, not %d", b, h, list, e, want)
	}
	has(t, b, 0, false)
	has(t, b, 1, false)
	for n := 4; n <= min(len(b), 40); n++ { // whatever stands there would be one
		has(t, b, binary.BigEndian.Uint32(b[n-4:]), false)
	}
}

// has asks whether Has says this.
func has(t *testing.T, b []byte, version uint32, want bool) {
	t.Helper()
	if got := offer.Has(b, version); got != want {
		t.Fatalf("%x, %x: %t", b, version, got)
	}
}

// answers asks whether Answer has this result.
func answers(t *testing.T, b []byte, first byte, versions []uint32, want []byte, err api.Errno) {
	t.Helper()
	if got, e := offer.Answer(b, first, versions...); !bytes.Equal(got, want) || e != err {
		t.Fatalf("%x, %x %d: %x %d, not %x %d", b, first, len(versions), got, e, want, err)
	}
}

// P13.1, P13.2, P13.3: the chapter's example.
func TestExample(t *testing.T) {
	question := []byte{0xc0, 0, 0, 0, 9, 1, 7, 1, 8}
	reply := []byte{0x80, 0, 0, 0, 0, 1, 8, 1, 7, 0, 0, 0, 1}
	answers(t, question, 0, []uint32{1}, reply, api.OK)
	answers(t, slices.Concat(question, mixed(1200, 1)), 0, []uint32{1}, reply, api.OK)
	makes(t, 0, []byte{8}, []byte{7}, []uint32{1}, reply, api.OK)
	parses(t, reply, build(0x80, []byte{8}, []byte{7}), 1)
	for _, v := range []uint32{0, 9, 7, 8, 0x01000000, 256, 0x00010000, math.MaxUint32} {
		has(t, reply, v, false)
	}
}

// P13.1: seven bits of the first byte are as they are asked for, the most significant one is 1.
func TestMakeOfFirstBytes(t *testing.T) {
	for first := range 256 {
		long := byte(first%128 + 128)
		b := packet(long, []byte{1, 2}, []byte{3}, 1, 0x6b3343cf)
		makes(t, byte(first), []byte{1, 2}, []byte{3}, []uint32{1, 0x6b3343cf}, b, api.OK)
		answers(t, header(0xc0, 9, []byte{3}, []byte{1, 2}), byte(first), []uint32{1, 0x6b3343cf}, b, api.OK)
		parses(t, b, build(long, []byte{1, 2}, []byte{3}), 1, 0x6b3343cf)
	}
}

// P13.1: ids of each length up to 255 bytes, either one longer.
func TestMakeOfIds(t *testing.T) {
	for n := range 256 {
		for _, m := range []int{0, 1, 8, 20, 21, 128, 254, 255, n, 255 - n} {
			to, from, versions := mixed(n, 1), mixed(m, 2), several(1+n%5, uint64(m))
			b := packet(0xc0, to, from, versions...)
			makes(t, 0xc0, to, from, versions, b, api.OK)
			parses(t, b, build(0xc0, to, from), versions...)
		}
	}
	makes(t, 0, []byte{}, nil, []uint32{0}, packet(0x80, nil, nil, 0), api.OK)
	makes(t, 0, nil, []byte{}, []uint32{0}, packet(0x80, nil, nil, 0), api.OK)
}

// P13.1: 1 to 64 versions, in their order, also if some are the same.
func TestMakeOfVersions(t *testing.T) {
	for n := 1; n <= 64; n++ {
		for _, versions := range [][]uint32{several(n, 1), make([]uint32, n), slices.Repeat([]uint32{1}, n), slices.Repeat([]uint32{math.MaxUint32}, n)} {
			b := packet(0xff, []byte{1}, []byte{2, 3}, versions...)
			makes(t, 0xff, []byte{1}, []byte{2, 3}, versions, b, api.OK)
			makes(t, 0xff, mixed(255, 1), mixed(255, 2), versions, packet(0xff, mixed(255, 1), mixed(255, 2), versions...), api.OK)
			parses(t, b, build(0xff, []byte{1}, []byte{2, 3}), versions...)
		}
	}
	for bit := range 32 { // each byte counts, in its order
		v := uint32(1) << bit
		for _, version := range []uint32{v, v - 1, ^v, v | 0x0a0a0a0a} {
			b := packet(0x80, nil, nil, version)
			makes(t, 0x80, nil, nil, []uint32{version}, b, api.OK)
			parses(t, b, build(0x80, nil, nil), version)
		}
	}
}

// P13.1: no versions, or more than 64, are refused first, also if their count's low byte would do; then an id of more than 255 bytes.
func TestMakeRefused(t *testing.T) {
	lengths := []int{0, 1, 255, 256, 257, 276, 511, 512, 65535, 65536}
	counts := []int{0, 1, 64, 65, 66, 128, 255, 256, 257, 320, 65536, 65537}
	for _, n := range lengths {
		for _, m := range lengths {
			for _, k := range counts {
				to, from, versions := make([]byte, n), make([]byte, m, m+3), make([]uint32, k, k+3)
				question := header(0x80, 1, from[:min(m, 255)], to[:min(n, 255)])
				switch {
				case k == 0 || k > 64:
					makes(t, 0x80, to, from, versions, nil, api.ErrRange)
					answers(t, question, 0, versions, nil, api.ErrRange)
				case n > 255 || m > 255:
					makes(t, 0x80, to, from, versions, nil, api.ErrLong)
				default:
					makes(t, 0x80, to, from, versions, packet(0x80, to, from, versions...), api.OK)
					answers(t, question, 0, versions, packet(0x80, to, from, versions...), api.OK)
				}
			}
		}
	}
	makes(t, 0, nil, nil, nil, nil, api.ErrRange)
	makes(t, 0, nil, nil, []uint32{}, nil, api.ErrRange)
}

// P13.2: each first byte of a long header is kept as it is; each other one is of no kind.
func TestParseOfFirstBytes(t *testing.T) {
	for first := range 256 {
		b := packet(byte(first), []byte{1}, nil, 1)
		if first >= 128 {
			parses(t, b, build(byte(first), []byte{1}, nil), 1)
			continue
		}
		for n := 1; n <= len(b); n++ {
			refuses(t, b[:n], api.ErrKind)
		}
	}
}

// P13.2: a header of any other version has no offer, whichever of its bits are 1, and whatever is behind it.
func TestParseOfVersions(t *testing.T) {
	versions := []uint32{1, 2, 9, 0x6b3343cf, 0xff00001d, 0x0a0a0a0a, math.MaxUint32}
	for bit := range 32 {
		versions = append(versions, 1<<bit, ^uint32(1<<bit), 1<<bit|1)
	}
	for _, v := range versions {
		b := slices.Concat(header(0xc0, v, []byte{1}, []byte{2}), mixed(9, uint64(v)))
		for n := range 9 {
			refuses(t, b[:9+n], api.ErrKind)
		}
	}
}

// P13.2: a header that is cut anywhere is refused, also if the bytes behind its length would do.
func TestParseEnds(t *testing.T) {
	refuses(t, nil, api.ErrEnd)
	refuses(t, []byte{}, api.ErrEnd)
	for _, version := range []uint32{0, 1} { // the header's end is told before its version
		for _, c := range [][2]int{{0, 0}, {1, 0}, {0, 1}, {8, 8}, {20, 20}, {255, 255}} {
			b := slices.Concat(header(0x80, version, mixed(c[0], 1), mixed(c[1], 2)), []byte{0, 0, 0, 1})
			for n := range len(b) - 4 {
				refuses(t, b[:n], api.ErrEnd)
				refuses(t, slices.Clone(b[:n]), api.ErrEnd)
			}
		}
	}
}

// P13.2: the bytes after the header are a multiple of four, and some; of what is read there may be more versions than of what is made.
func TestParseOfLengths(t *testing.T) {
	for _, c := range [][2]int{{0, 0}, {1, 0}, {0, 2}, {3, 4}, {20, 20}, {255, 254}} {
		to, from := mixed(c[0], 1), mixed(c[1], 2)
		for n := range 600 {
			b := slices.Concat(header(0xaa, 0, to, from), mixed(n, 3))
			if n == 0 || n%4 != 0 {
				refuses(t, b, api.ErrForm)
				refuses(t, slices.Concat(b, []byte{0, 0, 0})[:len(b)], api.ErrForm) // what lies behind the length does not count
				continue
			}
			parses(t, b, build(0xaa, to, from), several(n/4, 3)...)
		}
	}
	for _, n := range []int{65, 255, 256, 257, 16384, 1 << 18} {
		b := packet(0x80, nil, nil, several(n, 3)...)
		parses(t, b, build(0x80, nil, nil), several(n, 3)...)
		refuses(t, b[:len(b)-1], api.ErrForm)
		refuses(t, append(b, 0), api.ErrForm)
	}
}

// short is a header's id and what is behind it; false if the bytes end first.
func short(b []byte) ([]byte, []byte, bool) {
	if len(b) == 0 || len(b) < 1+int(b[0]) {
		return nil, nil, false
	}
	return b[1 : 1+int(b[0])], b[1+int(b[0]):], true
}

// told is the long header that layer 10's words find in bytes, taken one after the other, and what is behind it.
func told(b []byte) (head.Head, []byte, api.Errno) {
	if len(b) > 0 && b[0] < 128 {
		return head.Head{}, nil, api.ErrKind
	}
	if len(b) < 5 {
		return head.Head{}, nil, api.ErrEnd
	}
	to, b1, ok1 := short(b[5:])
	from, b2, ok2 := short(b1)
	if !ok1 || !ok2 {
		return head.Head{}, nil, api.ErrEnd
	}
	return head.Head{First: b[0], Version: binary.BigEndian.Uint32(b[1:]), To: to, From: from}, b2, api.OK
}

// P13.2, P13.3: any bytes at all, against the chapter's words.
func TestAnyBytes(t *testing.T) {
	seen := map[api.Errno]int{}
	for seed := range uint64(30000) {
		b := mixed(int(seed%60), seed)
		for i := range b {
			switch {
			case i == 0 && seed%5 > 0:
				b[i] |= 0x80
			case i > 0 && i < 5 && seed%7 > 0:
				b[i] = 0
			case i > 4 && seed%3 > 0:
				b[i] %= 16 // lengths that often fit
			}
		}
		h, behind, e := told(b)
		if e != api.OK {
			answers(t, b, byte(seed), []uint32{1, 2}, nil, e)
		} else {
			answers(t, b, byte(seed), []uint32{1, 2}, packet(byte(seed)|0x80, h.From, h.To, 1, 2), api.OK)
			switch {
			case h.Version != 0:
				e = api.ErrKind
			case len(behind) == 0 || len(behind)%4 != 0:
				e = api.ErrForm
			}
		}
		seen[e]++
		if e != api.OK {
			refuses(t, b, e)
			continue
		}
		var versions []uint32
		for part := range slices.Chunk(behind, 4) {
			versions = append(versions, binary.BigEndian.Uint32(part))
		}
		parses(t, b, h, versions...)
	}
	for _, e := range []api.Errno{api.OK, api.ErrEnd, api.ErrKind, api.ErrForm} {
		if seen[e] < 500 {
			t.Error(seen)
		}
	}
}

// P13.2: a version is found wherever it stands, and just there where it begins.
func TestHas(t *testing.T) {
	list := several(300, 1)
	for n := 1; n <= 300; n += 7 {
		b := packet(0xc0, mixed(n%256, 2), nil, list[:n]...)
		for i, v := range list {
			has(t, b, v, i < n)
			has(t, b[:len(b)-1], v, false)
			has(t, append(slices.Clone(b), 0), v, false)
		}
		for bit := range 32 { // all of its bits count
			has(t, b, list[n-1]^1<<bit, false)
		}
	}
	b := packet(0xc0, []byte{0, 0, 0, 3}, []byte{0, 0, 0, 4}, 0x01020304, 0x05060708)
	for _, v := range []uint32{0, 3, 4, 0x02030405, 0x03040506, 0x04050607, 0x04030201, 0x00040102} { // some bytes of it, but no version
		has(t, b, v, false)
	}
	has(t, packet(0x80, nil, nil, 5, 0), 0, true)
	has(t, packet(0x80, nil, nil, 5, math.MaxUint32), math.MaxUint32, true)
	has(t, packet(0x40, nil, nil, 1), 1, false)
	has(t, slices.Concat(header(0x80, 1, nil, nil), []byte{0, 0, 0, 1}), 1, false)
}

// P13.3: packets of every version and with ids of each length are answered, whatever is behind their header; the ids change places.
func TestAnswer(t *testing.T) {
	for n := range 256 {
		for _, m := range []int{0, 1, 8, 20, 21, 255, n, 255 - n} {
			to, from, versions := mixed(n, 1), mixed(m, 2), several(1+n%64, 3)
			question := slices.Concat(header(byte(128+n/2), uint32(n*m)*2654435761, to, from), mixed(n%9, 4))
			reply := packet(0xc0, from, to, versions...)
			answers(t, question, 0x40, versions, reply, api.OK)
			parses(t, reply, build(0xc0, from, to), versions...)
		}
	}
	for _, v := range []uint32{0, 1, 2, 9, 0x6b3343cf, math.MaxUint32} { // also an offer, and a packet of a version that is offered
		for _, behind := range [][]byte{nil, {0}, {0, 0, 0, 1}, mixed(1200, 1), mixed(65535, 2)} {
			answers(t, slices.Concat(header(0xe5, v, []byte{7}, []byte{8, 9}), behind), 0x7f, []uint32{1, v}, packet(0xff, []byte{8, 9}, []byte{7}, 1, v), api.OK)
		}
	}
	answers(t, packet(0x80, []byte{1}, []byte{2}, 3, 4), 0, []uint32{5}, packet(0x80, []byte{2}, []byte{1}, 5), api.OK)
}

// P13.3: first the packet's errors, then those of Make.
func TestAnswerRefused(t *testing.T) {
	b := header(0xc0, 9, []byte{7, 8}, []byte{9})
	for _, k := range []int{0, 1, 64, 65, 256, 257} {
		versions := several(k, 1)
		answers(t, nil, 0xc0, versions, nil, api.ErrEnd)
		answers(t, []byte{}, 0xc0, versions, nil, api.ErrEnd)
		for n := 1; n < len(b); n++ {
			answers(t, b[:n], 0xc0, versions, nil, api.ErrEnd)
			short := slices.Clone(b[:n])
			short[0] = 0x7f
			answers(t, short, 0xc0, versions, nil, api.ErrKind)
		}
		for first := range 128 {
			answers(t, []byte{byte(first)}, 0xc0, versions, nil, api.ErrKind)
			answers(t, slices.Concat([]byte{byte(first)}, b[1:]), 0xc0, versions, nil, api.ErrKind)
		}
		if k == 0 || k > 64 {
			answers(t, b, 0xc0, versions, nil, api.ErrRange)
			continue
		}
		answers(t, b, 0xc0, versions, packet(0xc0, []byte{9}, []byte{7, 8}, versions...), api.OK)
	}
}

// P13.1, P13.2, P13.3: arguments stay as they are, also behind their length.
func TestArgumentsStay(t *testing.T) {
	for _, s := range []string{"c0000000000107020809000000016b3343cf", "c000000009010702080900000001", "c000000000010702080900000001ff", "c00000000001070208", "4000000000010702080900000001", "c0"} {
		whole := raw(t, s+"a5a5a5a5"+"01020304")
		b := whole[:len(s)/2]
		versions := several(70, 1)
		offer.Parse(b)
		offer.Has(b, 1)
		offer.Has(b, 0xa5a5a5a5)
		for _, n := range []int{0, 1, 2, 64, 65} {
			offer.Answer(b, 0x40, versions[:n]...)
			offer.Make(0x40, b, b[1:], versions[:n]...)
			offer.Make(0x40, b, make([]byte, 256), versions[:n]...)
		}
		if !bytes.Equal(whole, raw(t, s+"a5a5a5a5"+"01020304")) || !slices.Equal(versions, several(70, 1)) {
			t.Errorf("%s: %x %x", s, whole, versions)
		}
	}
}

// P13.2: what Parse gives shares no memory: not with its argument, nor one part with another, to the end of their capacity.
func TestParsedIsNew(t *testing.T) {
	b := packet(0xc0, []byte{7, 8}, []byte{1, 2, 3}, 1, 0x01020304, 5)
	want := slices.Clone(b)
	for at := range 3 {
		h, versions, e := offer.Parse(b)
		if e != api.OK {
			t.Fatal(e)
		}
		to, from, list := slices.Clone(h.To), slices.Clone(h.From), slices.Clone(versions)
		switch at {
		case 0:
			spoil(h.To)
			to = h.To
		case 1:
			spoil(h.From)
			from = h.From
		case 2:
			spoil(versions)
			list = versions
		}
		if !bytes.Equal(h.To, to) || !bytes.Equal(h.From, from) || !slices.Equal(versions, list) || !bytes.Equal(b, want) {
			t.Errorf("%d: %x %x; %x", at, h, versions, b)
		}
		parses(t, b, build(0xc0, []byte{7, 8}, []byte{1, 2, 3}), 1, 0x01020304, 5)
	}
	h, versions, _ := offer.Parse(b)
	spoil(b)
	if !equal(h, build(0xc0, []byte{7, 8}, []byte{1, 2, 3})) || !slices.Equal(versions, []uint32{1, 0x01020304, 5}) {
		t.Errorf("%x %x", h, versions)
	}
}

// P13.3: what Make and Answer give is new memory each time, to the end of its capacity.
func TestResultsAreNew(t *testing.T) {
	to, from, versions := mixed(8, 1), mixed(9, 2), several(10, 3)
	question := slices.Concat(header(0xc0, 9, from, to), mixed(40, 4))
	want := packet(0xc0, to, from, versions...)
	for name, call := range map[string]func() ([]byte, api.Errno){
		"Make":   func() ([]byte, api.Errno) { return offer.Make(0xc0, to, from, versions...) },
		"Answer": func() ([]byte, api.Errno) { return offer.Answer(question, 0xc0, versions...) },
	} {
		first, _ := call()
		second, _ := call()
		spoil(first)
		third, e := call()
		if !bytes.Equal(second, want) || !bytes.Equal(third, want) || e != api.OK {
			t.Errorf("%s: %x, then %x and %x", name, want, second, third)
		}
	}
	made, _ := offer.Make(0xc0, to, from, versions...)
	reply, _ := offer.Answer(question, 0xc0, versions...)
	spoil(to)
	spoil(from)
	spoil(question)
	spoil(versions)
	if !bytes.Equal(made, want) || !bytes.Equal(reply, want) {
		t.Errorf("%x and %x, not %x", made, reply, want)
	}
}

// P13.1, P13.2, P13.3: calls of many goroutines do no harm to each other.
func TestAtOnce(t *testing.T) {
	to, from, versions := mixed(20, 1), mixed(255, 2), several(64, 3)
	b := packet(0xc0, to, from, versions...)
	question := slices.Concat(header(0xff, 9, from, to), mixed(1200, 4))
	var all sync.WaitGroup
	for range 8 {
		all.Go(func() {
			for range 50 {
				if h, list, e := offer.Parse(b); e != api.OK || !equal(h, build(0xc0, to, from)) || !slices.Equal(list, versions) {
					t.Errorf("%x %x %d", h, list, e)
				}
				if made, e := offer.Make(0x40, to, from, versions...); e != api.OK || !bytes.Equal(made, b) {
					t.Errorf("%x %d", made, e)
				}
				if reply, e := offer.Answer(question, 0xc0, versions...); e != api.OK || !bytes.Equal(reply, b) {
					t.Errorf("%x %d", reply, e)
				}
				if !offer.Has(b, versions[63]) || offer.Has(b, 0) {
					t.Error("has")
				}
			}
		})
	}
	all.Wait()
}
