package codec_test

import (
	"bytes"
	"encoding/hex"
	"math"
	"slices"
	"strconv"
	"sync"
	"testing"

	"crossway/api"
	"crossway/codec"
	"crossway/mode"
)

const (
	key  = "8f95f09245765f80256934e50c66207f"
	zero = "00000000000000000000000000000000"
)

// beyond are numbers that are no point at all; some would be one if only their low bits counted.
var beyond = []int{math.MinInt, math.MinInt + 1, math.MinInt32, -65536, -256, -255, -64, -4, -3, -2, -1, 4, 5, 7, 8, 63, 64, 65, 128, 192, 255, 256, 257, 258, 65536, 1 << 32, 1<<32 + 1, math.MaxInt32, math.MaxInt - 3, math.MaxInt}

// odd are counts of bytes that no id has; some would be one if only their low bits counted.
var odd = []int{256, 257, 260, 263, 264, 276, 512, 65536, 65543, 65544}

func raw(t *testing.T, s string) []byte {
	t.Helper()
	b, err := hex.DecodeString(s)
	if err != nil {
		t.Fatal(s, err)
	}
	return b
}

// mixed are n bytes without a pattern; others for another seed.
func mixed(n int, seed uint64) []byte {
	b := make([]byte, n)
	for i := range b {
		seed = seed*6364136223846793005 + 1442695040888963407
		b[i] = byte(seed >> 40)
	}
	return b
}

// spoil writes over a slice, its spare capacity too. It counts up, so that a second time doesn't undo the first.
func spoil(b []byte) {
	b = b[:cap(b)]
	for i := range b {
		b[i]++
	}
}

// valid are configurations of every mode with every pair of lengths that there is.
func valid() []mode.Config {
	var list []mode.Config
	for sid := 1; sid <= 15; sid++ {
		for nonce := 4; sid+nonce <= 19; nonce++ {
			k := [16]byte(mixed(16, uint64(100*sid+nonce)))
			list = append(list, mode.Config{Sid: sid, Nonce: nonce}, mode.Config{Mode: mode.MFour, Sid: sid, Nonce: nonce, Key: k})
			if sid+nonce == 16 {
				list = append(list, mode.Config{Mode: mode.MBlock, Sid: sid, Nonce: nonce, Key: k})
			}
		}
	}
	return list
}

// some are few valid configurations: those at the edges, and one in the middle, of every mode.
func some(t *testing.T) []mode.Config {
	t.Helper()
	k := [16]byte(raw(t, key))
	return []mode.Config{
		{Sid: 1, Nonce: 4}, {Sid: 3, Nonce: 4}, {Sid: 1, Nonce: 18}, {Sid: 15, Nonce: 4},
		{Mode: mode.MBlock, Sid: 1, Nonce: 15, Key: k}, {Mode: mode.MBlock, Sid: 8, Nonce: 8, Key: k}, {Mode: mode.MBlock, Sid: 12, Nonce: 4, Key: k},
		{Mode: mode.MFour, Sid: 1, Nonce: 4, Key: k}, {Mode: mode.MFour, Sid: 8, Nonce: 5, Key: k}, {Mode: mode.MFour, Sid: 1, Nonce: 18, Key: k}, {Mode: mode.MFour, Sid: 15, Nonce: 4, Key: k},
	}
}

// invalid are configurations that break the words of layer 16, each in a way of its own.
func invalid(t *testing.T) []mode.Config {
	t.Helper()
	k := [16]byte(raw(t, key))
	return []mode.Config{
		{}, {Sid: 3, Nonce: 4, Key: k}, {Sid: 0, Nonce: 4}, {Sid: 16, Nonce: 3}, {Sid: 3, Nonce: 3}, {Sid: 1, Nonce: 19}, {Sid: 10, Nonce: 10}, {Sid: -1, Nonce: 8}, {Sid: 8, Nonce: -1}, {Sid: math.MaxInt, Nonce: math.MaxInt}, {Sid: math.MinInt, Nonce: math.MinInt},
		{Mode: mode.MBlock, Sid: 8, Nonce: 7, Key: k}, {Mode: mode.MBlock, Sid: 3, Nonce: 4, Key: k}, {Mode: mode.MBlock, Sid: 16, Nonce: 0, Key: k},
		{Mode: mode.MFour, Sid: 0, Nonce: 8, Key: k}, {Mode: mode.MFour, Sid: 15, Nonce: 5, Key: k},
		{Mode: 3, Sid: 3, Nonce: 4}, {Mode: -1, Sid: 3, Nonce: 4}, {Mode: 256, Sid: 3, Nonce: 4},
	}
}

// asks are the calls of one test.
type asks struct{ *testing.T }

// makes asks whether Make makes this id of parts, and Back gives them again.
func (a asks) makes(c mode.Config, point int, sid, nonce, want []byte) {
	a.Helper()
	if id, e := codec.Make(c, point, sid, nonce); !bytes.Equal(id, want) || e != api.OK {
		a.Fatalf("%+v, %d %x %x: %x %d, not %x", c, point, sid, nonce, id, e, want)
	}
	a.backs(c, want, point, sid, nonce)
}

// backs asks whether Back gives these parts of an id.
func (a asks) backs(c mode.Config, id []byte, point int, sid, nonce []byte) {
	a.Helper()
	p, e := codec.Back(c, id)
	if p.Point != point || !bytes.Equal(p.Sid, sid) || !bytes.Equal(p.Nonce, nonce) || e != api.OK {
		a.Fatalf("%+v, %x: %+v %d, not %d %x %x", c, id, p, e, point, sid, nonce)
	}
}

// noMake asks whether Make refuses parts with this error.
func (a asks) noMake(c mode.Config, point int, sid, nonce []byte, want api.Errno) {
	a.Helper()
	if id, e := codec.Make(c, point, sid, nonce); len(id) != 0 || e != want {
		a.Fatalf("%+v, %d %x %x: %x %d, not %d", c, point, sid, nonce, id, e, want)
	}
}

// noBack asks whether Back refuses an id with this error.
func (a asks) noBack(c mode.Config, id []byte, want api.Errno) {
	a.Helper()
	if p, e := codec.Back(c, id); p.Point != 0 || len(p.Sid) != 0 || len(p.Nonce) != 0 || e != want {
		a.Fatalf("%+v, %x: %+v %d, not %d", c, id, p, e, want)
	}
}

// plain asks whether Plain makes this id.
func (a asks) plain(point int, nonce, want []byte) {
	a.Helper()
	if id, e := codec.Plain(point, nonce); !bytes.Equal(id, want) || e != api.OK {
		a.Fatalf("%d %x: %x %d, not %x", point, nonce, id, e, want)
	}
}

// noPlain asks whether Plain refuses a point, or a nonce.
func (a asks) noPlain(point int, nonce []byte) {
	a.Helper()
	if id, e := codec.Plain(point, nonce); len(id) != 0 || e != api.ErrRange {
		a.Fatalf("%d %x: %x %d", point, nonce, id, e)
	}
}

// remade asks whether Make gives the id again of which these are the bytes behind the first one.
func (a asks) remade(c mode.Config, point int, rest []byte) {
	a.Helper()
	id := append([]byte{byte(64*point + len(rest))}, rest...)
	p, e := codec.Back(c, id)
	if e != api.OK {
		a.Fatalf("%+v, %x: %d", c, id, e)
	}
	a.makes(c, p.Point, p.Sid, p.Nonce, id)
}

// turned is an id in the chapter's words, with the bytes that layer 16 encrypts.
func turned(t *testing.T, c mode.Config, point int, sid, nonce []byte) []byte {
	t.Helper()
	rest, e := c.Turn(slices.Concat(sid, nonce))
	if e != api.OK {
		t.Fatalf("%+v: %d", c, e)
	}
	return append([]byte{byte(64*point + c.Sid + c.Nonce)}, rest...)
}

// P17.1: the point and the length of every first byte.
func TestFirstBytes(t *testing.T) {
	for b := range 256 {
		if n := codec.Point(byte(b)); n != b/64 {
			t.Errorf("%x: %d", b, n)
		}
		if n := codec.Told(byte(b)); n != b%64+1 {
			t.Errorf("%x: %d", b, n)
		}
	}
	for _, x := range []struct {
		first       byte
		point, told int
	}{{0x00, 0, 1}, {0x3f, 0, 64}, {0x40, 1, 1}, {0x47, 1, 8}, {0x53, 1, 20}, {0x85, 2, 6}, {0xc0, 3, 1}, {0xd3, 3, 20}, {0xff, 3, 64}} {
		if codec.Point(x.first) != x.point || codec.Told(x.first) != x.told {
			t.Errorf("%x: %d %d", x.first, codec.Point(x.first), codec.Told(x.first))
		}
	}
}

// P17.2: the fields of parts.
func TestFields(t *testing.T) {
	fields := struct {
		Point      int
		Sid, Nonce []byte
	}(codec.Parts{Point: 2, Sid: []byte{1}, Nonce: []byte{2, 3}}) // this holds for these fields alone
	if fields.Point != 2 || !bytes.Equal(fields.Sid, []byte{1}) || !bytes.Equal(fields.Nonce, []byte{2, 3}) {
		t.Error(fields)
	}
}

// P17.1, P17.2: the chapter's example, and that of layer 28.
func TestExamples(t *testing.T) {
	a := asks{t}
	a.makes(mode.Config{Mode: mode.MPlain, Sid: 3, Nonce: 4}, 1, []byte{1, 2, 3}, []byte{4, 5, 6, 7}, []byte{0x47, 1, 2, 3, 4, 5, 6, 7})
	a.makes(mode.Config{Mode: mode.MPlain, Sid: 1, Nonce: 4}, 2, []byte{9}, []byte{0, 0, 0, 1}, []byte{0x85, 9, 0, 0, 0, 1})
}

// P17.1, P17.2: server numbers and nonces of the examples of the draft of QUIC-LB, with first bytes as the chapter lays them out.
func TestSamples(t *testing.T) {
	for _, x := range []struct {
		mode             int
		key              string
		point            int
		sid, nonce, want string
	}{
		{mode.MFour, "fdf726a9893ec05c0632d3956680baf0", 0, "31441a", "9c69c275", "0767947d29be054a"},
		{mode.MFour, key, 0, "ed793a", "ee080dbf", "0720b1d07b359d3c"},
		{mode.MFour, key, 1, "ed793a51d49b8f5fab65", "ee080dbf48", "4fcc381bc74cb4fbad2823a3d1f8fed2"},
		{mode.MBlock, key, 2, "ed793a51d49b8f5f", "ee080dbf48c0d1e5", "904dd2d05a7b0de9b2b9907afb5ecf8cc3"},
		{mode.MFour, key, 0, "ed793a51d49b8f5fab", "ee080dbf48c0d1e55d", "125779c9cc86beb3a3a4a3ca96fce4bfe0cdbc"},
		{mode.MPlain, zero, 0, "ed793a", "ee080dbf", "07ed793aee080dbf"},
	} {
		c := mode.Config{Mode: x.mode, Sid: len(x.sid) / 2, Nonce: len(x.nonce) / 2, Key: [16]byte(raw(t, x.key))}
		asks{t}.makes(c, x.point, raw(t, x.sid), raw(t, x.nonce), raw(t, x.want))
	}
}

// P17.1, P17.2, P17.3: every point and parts of all kinds, with every mode and every pair of lengths, against the chapter's words.
func TestMake(t *testing.T) {
	a := asks{t}
	for i, c := range valid() {
		for point := range 3 {
			for _, both := range [][]byte{mixed(19, uint64(i)), make([]byte, 19), bytes.Repeat([]byte{0xff}, 19)} {
				sid, nonce := both[:c.Sid], both[c.Sid:c.Sid+c.Nonce]
				id := turned(t, c, point, sid, nonce)
				if len(id) != c.Size() || codec.Point(id[0]) != point || codec.Told(id[0]) != len(id) {
					t.Fatalf("%+v: %x", c, id)
				}
				a.makes(c, point, sid, nonce, id)
			}
		}
	}
}

// P17.1: points beyond; 3 is none of an id that Make makes.
func TestMakePoints(t *testing.T) {
	for _, c := range some(t) {
		sid, nonce := mixed(c.Sid, 1), mixed(c.Nonce, 2)
		asks{t}.noMake(c, 3, sid, nonce, api.ErrRange)
		for _, point := range beyond {
			asks{t}.noMake(c, point, sid, nonce, api.ErrRange)
		}
	}
}

// P17.1: server numbers and nonces of all other lengths, also where both together are right.
func TestMakeLengths(t *testing.T) {
	a := asks{t}
	for _, c := range valid() {
		for s := range 21 {
			for n := range 21 {
				if s != c.Sid || n != c.Nonce {
					a.noMake(c, 1, make([]byte, s, 40), make([]byte, n, 40), api.ErrRange) // what lies behind the length does not count
				}
			}
		}
		sid, nonce := mixed(c.Sid, 1), mixed(c.Nonce, 2)
		for _, n := range odd {
			a.noMake(c, 0, make([]byte, n+c.Sid), nonce, api.ErrRange)
			a.noMake(c, 0, sid, make([]byte, n+c.Nonce), api.ErrRange)
		}
		a.noMake(c, 0, nil, nonce, api.ErrRange)
		a.noMake(c, 0, sid, nil, api.ErrRange)
		a.noMake(c, 0, nil, nil, api.ErrRange)
		a.noMake(c, 0, slices.Concat(sid, nonce), nil, api.ErrRange)
		a.noMake(c, 0, nil, slices.Concat(sid, nonce), api.ErrRange)
	}
}

// P17.1, P17.2: an invalid configuration makes nothing and decodes nothing, whatever else is wrong.
func TestInvalid(t *testing.T) {
	a := asks{t}
	for _, c := range invalid(t) {
		for _, point := range append([]int{0, 1, 2, 3}, beyond...) {
			a.noMake(c, point, nil, nil, api.ErrState)
			a.noMake(c, point, []byte{}, []byte{}, api.ErrState)
			a.noMake(c, point, make([]byte, 3), make([]byte, 4), api.ErrState)
			a.noMake(c, point, make([]byte, 8), make([]byte, 8), api.ErrState)
		}
		if c.Sid >= 0 && c.Sid < 100 && c.Nonce >= 0 && c.Nonce < 100 {
			a.noMake(c, 1, make([]byte, c.Sid), make([]byte, c.Nonce), api.ErrState)
			a.noBack(c, make([]byte, 1+c.Sid+c.Nonce), api.ErrState)
			a.noBack(c, append([]byte{byte(c.Sid + c.Nonce)}, make([]byte, c.Sid+c.Nonce)...), api.ErrState)
		}
		a.noBack(c, nil, api.ErrState)
		a.noBack(c, []byte{}, api.ErrState)
		for n := 1; n < 70; n++ {
			a.noBack(c, append([]byte{byte(n - 1)}, make([]byte, n-1)...), api.ErrState)
		}
	}
}

// P17.2: ids of all other lengths, also where the first byte states theirs.
func TestBackLengths(t *testing.T) {
	a := asks{t}
	for _, c := range valid() {
		id := turned(t, c, 1, mixed(c.Sid, 1), mixed(c.Nonce, 2))
		for n := range 80 {
			if n == len(id) {
				continue
			}
			b := make([]byte, n, 100) // what lies behind the length does not count
			copy(b, id)
			a.noBack(c, b, api.ErrRange)
			if n > 0 && n <= 64 {
				b[0] = byte(n - 1)
				a.noBack(c, b, api.ErrRange)
			}
		}
		for _, n := range odd {
			a.noBack(c, append(slices.Clone(id), make([]byte, n)...), api.ErrRange)
		}
		a.noBack(c, nil, api.ErrRange)
		a.noBack(c, id[:len(id)-1], api.ErrRange)
		a.noBack(c, append(slices.Clone(id), 0), api.ErrRange)
	}
	a.noBack(mode.Config{Sid: 3, Nonce: 4}, make([]byte, 1<<20), api.ErrRange)
}

// P17.2: each first byte: with the right length its point is told, also 3; with another length the id is refused.
func TestBackFirstBytes(t *testing.T) {
	a := asks{t}
	for _, c := range valid() {
		sid, nonce := mixed(c.Sid, 3), mixed(c.Nonce, 4)
		id := turned(t, c, 0, sid, nonce)
		for b := range 256 {
			id[0] = byte(b)
			if b%64 == len(id)-1 {
				a.backs(c, id, b/64, sid, nonce)
			} else {
				a.noBack(c, id, api.ErrForm)
			}
		}
	}
}

// P17.2: ids that encode no server: every point, every length, and the bytes as they are.
func TestPlain(t *testing.T) {
	a := asks{t}
	for point := range 4 {
		for n := range 20 {
			for _, nonce := range [][]byte{mixed(n, uint64(n)), make([]byte, n), bytes.Repeat([]byte{0xff}, n)} {
				a.plain(point, nonce, append([]byte{byte(64*point + n)}, nonce...))
			}
		}
		a.plain(point, nil, []byte{byte(64 * point)})
		a.plain(point, make([]byte, 3, 40), []byte{byte(64*point + 3), 0, 0, 0})
	}
	a.plain(3, []byte{7, 8}, []byte{0xc2, 7, 8})
	a.plain(1, raw(t, "000102030405060708090a0b0c0d0e0f101112"), raw(t, "53000102030405060708090a0b0c0d0e0f101112"))
}

// P17.2: points and nonces of which Plain makes no id.
func TestPlainRefused(t *testing.T) {
	a := asks{t}
	for _, point := range beyond {
		for _, n := range []int{0, 4, 19, 20} {
			a.noPlain(point, make([]byte, n))
		}
		a.noPlain(point, nil)
	}
	for point := range 4 {
		for n := 20; n < 300; n++ {
			a.noPlain(point, mixed(n, 1))
		}
		for _, n := range odd {
			a.noPlain(point, make([]byte, n))
		}
		a.noPlain(point, make([]byte, 1<<20))
	}
}

// P17.3: each id whose first byte states its length, with a point from 0 to 2, is made again from its parts.
func TestMadeAgain(t *testing.T) {
	a := asks{t}
	for i, c := range valid() {
		n := c.Sid + c.Nonce
		for point := range 3 {
			a.remade(c, point, mixed(n, uint64(7*i+point)))
			a.remade(c, point, make([]byte, n))
			a.remade(c, point, bytes.Repeat([]byte{0xff}, n))
		}
	}
}

// P17.3: each bit of the parts makes another id, and each bit behind the first byte of an id shows other parts.
func TestEveryBitCounts(t *testing.T) {
	for _, c := range some(t) {
		n := c.Sid + c.Nonce
		ids, shown, tries := map[string]int{}, map[string]int{}, 0
		for point := range 3 {
			for _, text := range flipped(mixed(n, 5)) {
				id, e := codec.Make(c, point, text[:c.Sid], text[c.Sid:])
				if e != api.OK || len(id) != 1+n {
					t.Errorf("%+v, %d %x: %x %d", c, point, text, id, e)
				}
				p, e := codec.Back(c, append([]byte{byte(64*point + n)}, text...))
				if e != api.OK || p.Point != point {
					t.Errorf("%+v, %d %x: %+v %d", c, point, text, p, e)
				}
				ids[string(id)]++
				shown[strconv.Itoa(p.Point)+string(p.Sid)+string(p.Nonce)]++
				tries++
			}
		}
		if len(ids) != tries || len(shown) != tries {
			t.Errorf("%+v: %d %d, not %d", c, len(ids), len(shown), tries)
		}
	}
}

// flipped are bytes as they are, and with each one of their bits changed.
func flipped(b []byte) [][]byte {
	list := [][]byte{b}
	for bit := range 8 * len(b) {
		other := slices.Clone(b)
		other[bit/8] ^= 1 << (bit % 8)
		list = append(list, other)
	}
	return list
}

// P17.3: arguments stay as they are, what lies behind their end too.
func TestArgumentsStay(t *testing.T) {
	tail := []byte{0xa5, 0xa5, 0xa5, 0xa5}
	for _, c := range valid() {
		before := c
		sid, nonce := append(mixed(c.Sid, 1), tail...), append(mixed(c.Nonce, 2), tail...)
		id := append(turned(t, c, 1, sid[:c.Sid], nonce[:c.Nonce]), tail...)
		sidWas, nonceWas, idWas := slices.Clone(sid), slices.Clone(nonce), slices.Clone(id)
		for _, more := range []int{-1, 0, 1} {
			codec.Make(c, 2, sid[:c.Sid+more], nonce[:c.Nonce])
			codec.Make(c, 2, sid[:c.Sid], nonce[:c.Nonce+more])
			codec.Back(c, id[:c.Size()+more])
			codec.Plain(3, nonce[:c.Nonce+more])
		}
		if !bytes.Equal(sid, sidWas) || !bytes.Equal(nonce, nonceWas) || !bytes.Equal(id, idWas) || c != before {
			t.Errorf("%+v: %x, not %x; %x, not %x; %x, not %x; %+v", before, sid, sidWas, nonce, nonceWas, id, idWas, c)
		}
	}
	row := append(mixed(19, 3), tail...) // both parts in one memory, where bytes behind the first one are the second one's
	want := slices.Clone(row)
	codec.Make(mode.Config{Sid: 3, Nonce: 4}, 0, row[:3], row[3:7])
	codec.Make(mode.Config{Sid: 3, Nonce: 4}, 0, row[8:11], row[2:6])
	codec.Plain(0, row[:7])
	if !bytes.Equal(row, want) {
		t.Errorf("%x, not %x", row, want)
	}
}

// P17.3: ids share no memory: not with an argument, nor with an earlier one, to the end of their capacity.
func TestIdsAreNew(t *testing.T) {
	for _, c := range valid() {
		sid, nonce := mixed(c.Sid, 1), mixed(c.Nonce, 2)
		for name, call := range map[string]func() []byte{
			"Make":  func() []byte { id, _ := codec.Make(c, 1, sid, nonce); return id },
			"Plain": func() []byte { id, _ := codec.Plain(3, nonce); return id },
			"none":  func() []byte { id, _ := codec.Plain(1, nil); return id },
		} {
			sidWas, nonceWas := slices.Clone(sid), slices.Clone(nonce)
			first := call()
			want := slices.Clone(first)
			again := call()
			spoil(first)
			third := call()
			if !bytes.Equal(again, want) || !bytes.Equal(third, want) || !bytes.Equal(sid, sidWas) || !bytes.Equal(nonce, nonceWas) {
				t.Errorf("%s %+v: %x %x, not %x; %x %x", name, c, again, third, want, sid, nonce)
			}
			spoil(sid)
			spoil(nonce)
			if !bytes.Equal(again, want) {
				t.Errorf("%s %+v: %x, not %x", name, c, again, want)
			}
			copy(sid, sidWas)
			copy(nonce, nonceWas)
		}
	}
}

// P17.3: parts share no memory: not with the id, nor with each other or with earlier ones, to the end of their capacity.
func TestPartsAreNew(t *testing.T) {
	for _, c := range valid() {
		sid, nonce := mixed(c.Sid, 1), mixed(c.Nonce, 2)
		id := turned(t, c, 1, sid, nonce)
		idWas := slices.Clone(id)
		first, _ := codec.Back(c, id)
		again, _ := codec.Back(c, id)
		spoil(first.Sid)
		if !bytes.Equal(first.Nonce, nonce) {
			t.Errorf("%+v: %x, not %x", c, first.Nonce, nonce)
		}
		sidWas := slices.Clone(first.Sid)
		spoil(first.Nonce)
		if !bytes.Equal(first.Sid, sidWas) {
			t.Errorf("%+v: %x, not %x", c, first.Sid, sidWas)
		}
		third, _ := codec.Back(c, id)
		if !bytes.Equal(id, idWas) {
			t.Errorf("%+v: %x, not %x", c, id, idWas)
		}
		spoil(id)
		for _, p := range []codec.Parts{again, third} {
			if p.Point != 1 || !bytes.Equal(p.Sid, sid) || !bytes.Equal(p.Nonce, nonce) {
				t.Errorf("%+v: %+v, not %x %x", c, p, sid, nonce)
			}
		}
	}
}

// P17.1, P17.2: calls of many goroutines do no harm to each other.
func TestAtOnce(t *testing.T) {
	sid, nonce := mixed(8, 1), mixed(8, 2)
	var all sync.WaitGroup
	for i := range 9 {
		c := mode.Config{Mode: i % 3, Sid: 8, Nonce: 8}
		if c.Mode != mode.MPlain {
			c.Key = [16]byte(mixed(16, uint64(i)))
		}
		want := turned(t, c, i/3, sid, nonce)
		all.Go(func() {
			for range 50 {
				if id, e := codec.Make(c, i/3, sid, nonce); e != api.OK || !bytes.Equal(id, want) {
					t.Errorf("%x %d", id, e)
				}
				if p, e := codec.Back(c, want); e != api.OK || p.Point != i/3 || !bytes.Equal(p.Sid, sid) || !bytes.Equal(p.Nonce, nonce) {
					t.Errorf("%+v %d", p, e)
				}
				if id, e := codec.Plain(3, nonce); e != api.OK || !bytes.Equal(id[1:], nonce) {
					t.Errorf("%x %d", id, e)
				}
			}
		})
	}
	all.Wait()
}
