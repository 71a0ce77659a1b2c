package scan_test

import (
	"bytes"
	"encoding/binary"
	"encoding/hex"
	"math"
	"slices"
	"strconv"
	"sync"
	"testing"

	"crossway/api"
	"crossway/scan"
)

func raw(t *testing.T, s string) []byte {
	t.Helper()
	b, err := hex.DecodeString(s)
	if err != nil {
		t.Fatal(s, err)
	}
	return b
}

// mixed are n bytes without a pattern; others for another seed.
func mixed(n int, seed uint64) []byte {
	b := make([]byte, n)
	for i := range b {
		seed = seed*6364136223846793005 + 1442695040888963407
		b[i] = byte(seed >> 40)
	}
	return b
}

// spoil writes over a slice, its spare capacity too.
func spoil(b []byte) {
	b = b[:cap(b)]
	for i := range b {
		b[i]++
	}
}

// form is a number's encoding with a size of layer 8, or nothing.
func form(v uint64, size int) []byte {
	class := map[int]uint64{1: 0, 2: 1, 4: 2, 8: 3}[size]
	if v>>(8*size-2) != 0 {
		return nil
	}
	var b [8]byte
	binary.BigEndian.PutUint64(b[:], v|class<<(8*size-2))
	return b[8-size:]
}

// shortest is the first of a number's encodings, or nothing.
func shortest(v uint64) []byte {
	for _, size := range []int{1, 2, 4, 8} {
		if b := form(v, size); b != nil {
			return b
		}
	}
	return nil
}

// varis are each length's least and greatest numbers, and RFC 9000's samples.
var varis = []uint64{0, 1, 37, 63, 64, 255, 256, 15293, 16383, 16384, 65535, 494878333, 1<<30 - 1, 1 << 30, 1 << 32, 1<<32 + 1, 151288809941952652, 1<<62 - 1}

// badSizes are those that an integer can't have, some of them like a right one in their low bits.
var badSizes = []int{math.MinInt, math.MinInt + 1, -1<<32 + 1, -256, -8, -2, -1, 9, 10, 16, 255, 256, 257, 1<<32 + 1, math.MaxInt - 1, math.MaxInt}

// read is what one call of a reader gives: a number, or bytes.
type read struct {
	n uint64
	b []byte
}

func (a read) same(b read) bool { return a.n == b.n && bytes.Equal(a.b, b.b) }

func (a read) isNothing() bool { return a.n == 0 && len(a.b) == 0 }

type readerCall struct {
	name string
	call func(r *scan.Reader) read
}

func num(size int) readerCall {
	return readerCall{"Num " + strconv.Itoa(size), func(r *scan.Reader) read { return read{n: r.Num(size)} }}
}

func some(n int) readerCall {
	return readerCall{"Bytes " + strconv.Itoa(n), func(r *scan.Reader) read { return read{b: r.Bytes(n)} }}
}

var (
	number = readerCall{"Vari", func(r *scan.Reader) read { return read{n: r.Vari()} }}
	short  = readerCall{"Short", func(r *scan.Reader) read { return read{b: r.Short()} }}
	long   = readerCall{"Long", func(r *scan.Reader) read { return read{b: r.Long()} }}
	rest   = readerCall{"Rest", func(r *scan.Reader) read { return read{b: r.Rest()} }}
	end    = readerCall{"End", func(r *scan.Reader) read { r.End(); return read{} }}
)

// takes asks whether one call on a new reader of b gives what is wanted, with no error, and leaves so many bytes.
func takes(t *testing.T, b []byte, c readerCall, want read, left int) {
	t.Helper()
	r := scan.Read(b)
	if got := c.call(r); !got.same(want) || r.Err() != api.OK || r.Left() != left {
		t.Fatalf("%s of %x: %v %d, %d left", c.name, b, got, r.Err(), r.Left())
	}
	if behind := r.Rest(); !bytes.Equal(behind, b[len(b)-left:]) || r.End() != api.OK {
		t.Fatalf("%s of %x leaves %x", c.name, b, behind)
	}
}

// refuses asks whether one call on a new reader of b has an error, gives nothing and consumes nothing.
func refuses(t *testing.T, b []byte, c readerCall, want api.Errno) {
	t.Helper()
	r := scan.Read(b)
	if got := c.call(r); !got.isNothing() || r.Err() != want || r.Left() != len(b) {
		t.Fatalf("%s of %x: %v %d, %d left", c.name, b, got, r.Err(), r.Left())
	}
}

// P9.1: the parts of a byte string, one after the other.
func TestReadInOrder(t *testing.T) {
	r := scan.Read(raw(t, "0102"+"aabbcc"+"7bbd"+"02d0d1"+"4003e0e1e2"+"ff"+"0000000000000007"+"1122"))
	for i, c := range []struct {
		call readerCall
		want read
		left int
	}{
		{num(2), read{n: 258}, 24},
		{some(3), read{b: []byte{0xaa, 0xbb, 0xcc}}, 21},
		{number, read{n: 15293}, 19},
		{short, read{b: []byte{0xd0, 0xd1}}, 16},
		{long, read{b: []byte{0xe0, 0xe1, 0xe2}}, 11},
		{num(1), read{n: 255}, 10},
		{num(0), read{}, 10},
		{num(8), read{n: 7}, 2},
		{some(0), read{}, 2},
		{rest, read{b: []byte{0x11, 0x22}}, 0},
		{rest, read{}, 0},
		{num(0), read{}, 0},
		{some(0), read{}, 0},
	} {
		if got := c.call.call(r); !got.same(c.want) || r.Left() != c.left || r.Err() != api.OK {
			t.Fatal(i, c.call.name, got, r.Left(), r.Err())
		}
	}
	if e := r.End(); e != api.OK {
		t.Error(e)
	}
}

// P9.1: an integer of each size, of ordinary bytes, zeros and ones, whatever follows it.
func TestNum(t *testing.T) {
	for size := range 9 {
		for seed := range uint64(20) {
			for _, b := range [][]byte{mixed(size, seed), make([]byte, size), bytes.Repeat([]byte{255}, size), bytes.Repeat([]byte{0x80}, size)} {
				var want uint64
				for _, x := range b {
					want = want*256 + uint64(x)
				}
				for more := range 10 {
					takes(t, slices.Concat(b, mixed(more, seed+99)), num(size), read{n: want}, more)
				}
			}
		}
	}
}

// P9.1: a size that an integer can't have is refused first, and then what is not there.
func TestNumOfNoSize(t *testing.T) {
	for have := range 20 {
		b := mixed(have, 7)
		for _, size := range badSizes {
			refuses(t, b, num(size), api.ErrRange)
		}
		for size := have + 1; size <= 8; size++ {
			refuses(t, b, num(size), api.ErrEnd)
			refuses(t, make([]byte, have, 64), num(size), api.ErrEnd)
		}
	}
	refuses(t, nil, num(1), api.ErrEnd)
	refuses(t, nil, num(9), api.ErrRange)
	refuses(t, make([]byte, 70000), num(9), api.ErrRange)
}

// P9.1
func TestBytes(t *testing.T) {
	for have := range 40 {
		b := mixed(have, uint64(have))
		for n := range have + 1 {
			takes(t, b, some(n), read{b: b[:n]}, have-n)
		}
		for _, n := range []int{have + 1, have + 2, have + 256, 1<<32 + have, math.MaxInt - 1, math.MaxInt} {
			refuses(t, b, some(n), api.ErrEnd)
			refuses(t, slices.Grow(b, 300), some(n), api.ErrEnd)
		}
		for _, n := range []int{-1, -2, -have - 1, -1 << 32, -1<<32 + 1, math.MinInt, math.MinInt + 1} {
			refuses(t, b, some(n), api.ErrRange)
		}
	}
	refuses(t, nil, some(1), api.ErrEnd)
	refuses(t, nil, some(-1), api.ErrRange)
	big := mixed(200000, 1)
	takes(t, big, some(199999), read{b: big[:199999]}, 1)
	takes(t, big, some(200000), read{b: big}, 0)
}

// P9.1: encodings of each length, also those that are not the shortest; what is cut is refused.
func TestVari(t *testing.T) {
	for _, v := range varis {
		for _, size := range []int{1, 2, 4, 8} {
			b := form(v, size)
			if b == nil {
				continue
			}
			for more := range 10 {
				takes(t, slices.Concat(b, mixed(more, v)), number, read{n: v}, more)
			}
			for n := range b {
				refuses(t, b[:n], number, api.ErrEnd)
			}
		}
	}
	refuses(t, nil, number, api.ErrEnd)
}

// P9.1: each length that a byte tells, with all bytes, with more of them, and with too few.
func TestShort(t *testing.T) {
	for n := range 256 {
		body := mixed(n, uint64(n))
		b := slices.Concat([]byte{byte(n)}, body)
		takes(t, b, short, read{b: body}, 0)
		takes(t, append(slices.Clone(b), 9), short, read{b: body}, 1)
		takes(t, slices.Concat(b, b), short, read{b: body}, len(b))
		for k := range b {
			refuses(t, b[:k], short, api.ErrEnd)
		}
	}
	refuses(t, nil, short, api.ErrEnd)
}

// P9.1: lengths in each encoding, with all bytes, with more of them, and with too few.
func TestLong(t *testing.T) {
	for _, n := range []int{0, 1, 2, 62, 63, 64, 65, 255, 256, 257, 16383, 16384, 65535, 65536, 70000} {
		body := mixed(n, uint64(n))
		for _, size := range []int{1, 2, 4, 8} {
			head := form(uint64(n), size)
			if head == nil {
				continue
			}
			b := slices.Concat(head, body)
			takes(t, b, long, read{b: body}, 0)
			takes(t, append(slices.Clone(b), 9), long, read{b: body}, 1)
			takes(t, slices.Concat(b, b), long, read{b: body}, len(b))
			for k := range b {
				if k < 40 || k > len(b)-3 {
					refuses(t, b[:k], long, api.ErrEnd)
				}
			}
		}
	}
	refuses(t, nil, long, api.ErrEnd)
}

// P9.1: a length that is greater than all memory, or that a narrower integer would take for a small one.
func TestLongBeyondAll(t *testing.T) {
	for _, v := range []uint64{1 << 31, 1<<31 + 1, 1 << 32, 1<<32 + 1, 1<<32 + 2, 1 << 40, 1<<61 + 1, 1<<62 - 2, 1<<62 - 1} {
		for _, size := range []int{4, 8} {
			if head := form(v, size); head != nil {
				refuses(t, head, long, api.ErrEnd)
				refuses(t, slices.Concat(head, mixed(20, v)), long, api.ErrEnd)
			}
		}
	}
	refuses(t, bytes.Repeat([]byte{255}, 1000), long, api.ErrEnd)
}

// P9.1: Short and Long put their length back also behind other parts.
func TestLengthsPutBack(t *testing.T) {
	for _, c := range []readerCall{short, long} {
		r := scan.Read(raw(t, "0708"+"02aabb"+"3fccdd"))
		if r.Num(2) != 0x0708 || !bytes.Equal(c.call(r).b, []byte{0xaa, 0xbb}) || r.Left() != 3 {
			t.Fatal(c.name, r.Left(), r.Err())
		}
		if got := c.call(r); !got.isNothing() || r.Err() != api.ErrEnd || r.Left() != 3 {
			t.Error(c.name, got, r.Err(), r.Left())
		}
	}
}

// failures are calls that fail on eight bytes of which the first is 200, and their errors.
var failures = []struct {
	call readerCall
	want api.Errno
}{
	{num(9), api.ErrRange}, {num(-1), api.ErrRange}, {some(-1), api.ErrRange}, {some(9), api.ErrEnd}, {some(math.MaxInt), api.ErrEnd},
	{short, api.ErrEnd}, {long, api.ErrEnd}, {end, api.ErrForm},
}

// P9.1, P9.2: once a reader has an error, it stays, whatever is called; nothing is read any more, and the bytes stay.
func TestReaderErrorStays(t *testing.T) {
	b := append([]byte{200}, mixed(7, 3)...)
	calls := []readerCall{num(0), num(1), num(8), num(9), num(-1), some(0), some(1), some(8), some(9), some(-1), number, short, long, rest, end}
	for _, f := range failures {
		for _, c := range calls {
			r := scan.Read(b)
			if got := f.call.call(r); !got.isNothing() || r.Err() != f.want {
				t.Fatal(f.call.name, got, r.Err())
			}
			for range 2 {
				if got := c.call(r); !got.isNothing() || r.Err() != f.want || r.End() != f.want || r.Left() != len(b) {
					t.Errorf("%s, then %s: %v %d, %d left", f.call.name, c.name, got, r.Err(), r.Left())
				}
			}
		}
	}
}

// P9.1, P9.2: an error behind parts that were read: just the bytes behind these stay.
func TestReaderErrorBehindParts(t *testing.T) {
	for _, f := range failures {
		r := scan.Read(append([]byte{1, 2, 3, 200}, mixed(7, 3)...))
		if r.Num(1) != 1 || len(r.Bytes(2)) != 2 || r.Err() != api.OK {
			t.Fatal(r.Err())
		}
		f.call.call(r)
		if r.Err() != f.want || r.Left() != 8 || len(r.Rest()) != 0 || r.Num(1) != 0 || r.Left() != 8 || r.End() != f.want {
			t.Error(f.call.name, r.Err(), r.Left())
		}
	}
	r := scan.Read([]byte{0x25, 0x40}) // a number, and one that is cut
	if r.Vari() != 37 || r.Vari() != 0 || r.Err() != api.ErrEnd || r.Left() != 1 || r.Num(1) != 0 || r.Left() != 1 {
		t.Error(r.Err(), r.Left())
	}
}

// P9.2: Rest is all that is left, and Left how much that is, at each place.
func TestRestAndLeft(t *testing.T) {
	b := mixed(300, 5)
	for n := range len(b) + 1 {
		r := scan.Read(b)
		if r.Left() != len(b) {
			t.Fatal(r.Left())
		}
		for i := range n {
			if x := r.Num(1); x != uint64(b[i]) || r.Left() != len(b)-i-1 {
				t.Fatal(i, x, r.Left())
			}
		}
		if got := r.Rest(); !bytes.Equal(got, b[n:]) || r.Left() != 0 || r.Err() != api.OK || r.End() != api.OK {
			t.Fatal(n, len(got), r.Left(), r.Err())
		}
		if got := r.Rest(); len(got) != 0 || r.Err() != api.OK {
			t.Fatal(n, got, r.Err())
		}
		if r.Num(1) != 0 || r.Err() != api.ErrEnd || r.End() != api.ErrEnd {
			t.Fatal(n, r.Err())
		}
	}
}

// P9.2: End is an error just where bytes remain; Err alone never is.
func TestEnd(t *testing.T) {
	for have := range 5 {
		for n := range have + 1 {
			r := scan.Read(mixed(have, 1))
			r.Bytes(n)
			want := api.OK
			if n < have {
				want = api.ErrForm
			}
			if r.Err() != api.OK || r.End() != want || r.Err() != want || r.End() != want || r.Left() != have-n {
				t.Error(have, n, r.Err(), r.Left())
			}
			if got := r.Rest(); len(got) != 0 || r.Left() != have-n {
				t.Error(have, n, got, r.Left())
			}
		}
	}
}

// P9.2: a reader of nothing is at its end.
func TestReadNothing(t *testing.T) {
	for _, b := range [][]byte{nil, {}, make([]byte, 0, 8)} {
		for _, c := range []readerCall{num(0), some(0), rest, end} {
			takes(t, b, c, read{}, 0)
		}
		for _, c := range []readerCall{num(1), some(1), number, short, long} {
			refuses(t, b, c, api.ErrEnd)
		}
	}
}

// ahead is a second way to read: it asks what a call must give at a place of b, and where it ends.
func ahead(b []byte, kind, n int) (want read, next int, e api.Errno) {
	from, size, e := 0, n, api.OK
	switch kind {
	case 0:
		if n < 0 || n > 8 {
			return read{}, 0, api.ErrRange
		}
	case 1:
		if n < 0 {
			return read{}, 0, api.ErrRange
		}
	case 2, 4:
		if len(b) == 0 || len(b) < 1<<(b[0]>>6) {
			return read{}, 0, api.ErrEnd
		}
		from, size = 1<<(b[0]>>6), int(b[0]&63)
		for _, x := range b[1:from] {
			size = size<<8 | int(x)
		}
		if kind == 2 {
			return read{n: uint64(size)}, from, api.OK
		}
	case 3:
		if len(b) == 0 {
			return read{}, 0, api.ErrEnd
		}
		from, size = 1, int(b[0])
	case 5:
		size = len(b)
	}
	if size > len(b)-from {
		return read{}, 0, api.ErrEnd
	}
	want.b = b[from : from+size]
	if kind == 0 {
		for _, x := range want.b {
			want.n = want.n<<8 | uint64(x)
		}
		want.b = nil
	}
	return want, from + size, api.OK
}

// P9.1, P9.2: rows of calls without a pattern, on bytes without a pattern.
func TestReadManyRows(t *testing.T) {
	reached := map[string]int{}
	for seed := range uint64(4000) {
		b, dice := mixed(int(seed%90), seed), mixed(60, seed+1<<40)
		for i := range b {
			if dice[i%60]&3 != 0 { // smaller bytes make lengths that fit
				b[i] &= 15
			}
		}
		r, at, err := scan.Read(b), 0, api.OK
		for i := 0; i < len(dice); i += 2 {
			kind, n := int(dice[i]%6), int(dice[i+1]%12)-1
			c := []readerCall{num(n), some(n), number, short, long, rest}[kind]
			if kind == 5 && n > 0 { // not so often: it ends the row
				continue
			}
			want, next, e := ahead(b[at:], kind, n)
			if err != api.OK {
				want, next, e = read{}, 0, err
			}
			at, err = at+next, e
			if got := c.call(r); !got.same(want) || r.Err() != err || r.Left() != len(b)-at {
				t.Fatalf("%x at %d: %s: %v %d, %d left", b, at, c.name, got, r.Err(), r.Left())
			}
			reached[c.name+" "+err.Error()]++
		}
		if err == api.OK && at < len(b) {
			err = api.ErrForm
		}
		if r.End() != err || r.Err() != err {
			t.Fatal(seed, r.Err(), err)
		}
	}
	for _, name := range []string{"Num -1 errno 11", "Num 9 errno 11", "Num 8 errno 12", "Num 8 errno ", "Bytes -1 errno 11", "Bytes 9 errno 12", "Bytes 9 errno ", "Vari errno ", "Vari errno 12", "Short errno ", "Short errno 12", "Long errno ", "Long errno 12", "Rest errno "} {
		if reached[name] < 20 {
			t.Error(name, reached[name])
		}
	}
}

// writes asks for the bytes of a writer.
func writes(t *testing.T, w *scan.Writer, want []byte) {
	t.Helper()
	if b, e := w.Done(); !bytes.Equal(b, want) || e != api.OK {
		t.Fatalf("%x %d, not %x", b, e, want)
	}
}

// fails asks for the error of a writer.
func fails(t *testing.T, w *scan.Writer, want api.Errno) {
	t.Helper()
	if b, e := w.Done(); len(b) != 0 || e != want {
		t.Fatalf("%x %d, not %d", b, e, want)
	}
}

// P9.3: the document's example, and one of all parts.
func TestWriteInOrder(t *testing.T) {
	writes(t, scan.Write().Num(1, 2).Short([]byte("ab")).Vari(64), []byte{0, 1, 2, 'a', 'b', 0x40, 0x40})
	w := scan.Write().Num(258, 2).Bytes([]byte{0xaa}, nil, []byte{0xbb, 0xcc}).Vari(15293, 37).Short([]byte{0xd0, 0xd1}).Long([]byte{0xe0}).Num(0, 0).Num(math.MaxUint64, 8)
	writes(t, w, raw(t, "0102"+"aabbcc"+"7bbd25"+"02d0d1"+"01e0"+"ffffffffffffffff"))
}

// P9.3: a writer of nothing, and parts of nothing.
func TestWriteNothing(t *testing.T) {
	writes(t, scan.Write(), nil)
	writes(t, scan.Write().Bytes().Bytes(nil).Bytes(nil, []byte{}, nil).Bytes([][]byte{}...).Vari().Vari([]uint64{}...).Num(0, 0), nil)
	writes(t, scan.Write().Short(nil), []byte{0})
	writes(t, scan.Write().Short([]byte{}), []byte{0})
	writes(t, scan.Write().Long(nil), []byte{0})
	writes(t, scan.Write().Long([]byte{}), []byte{0})
}

// P9.3: an integer in each size that has room for it, and ErrRange where none has.
func TestWriteNum(t *testing.T) {
	for bit := range 64 {
		for _, n := range []uint64{1 << bit, 1<<bit - 1, 1<<bit | 1, 1<<bit + mixed64(bit)%(1<<bit)} {
			var all [8]byte
			binary.BigEndian.PutUint64(all[:], n)
			for size := range 9 {
				w := scan.Write().Num(n, size)
				if size < 8 && n>>(8*size) != 0 {
					fails(t, w, api.ErrRange)
				} else {
					writes(t, w, all[8-size:])
				}
			}
		}
	}
	for _, size := range badSizes {
		for _, n := range []uint64{0, 1, 258, math.MaxUint64} {
			fails(t, scan.Write().Num(n, size), api.ErrRange)
		}
	}
}

func mixed64(seed int) uint64 { return binary.BigEndian.Uint64(mixed(8, uint64(seed))) }

// P9.3: parts stand in their order, however many they are.
func TestWriteBytes(t *testing.T) {
	var parts [][]byte
	var want []byte
	w := scan.Write()
	for n := range 80 {
		part := mixed(n%7*n, uint64(n))
		parts, want = append(parts, part), append(want, part...)
		w.Bytes(part)
		writes(t, scan.Write().Bytes(parts...), want)
		writes(t, w, want)
	}
	writes(t, scan.Write().Bytes(parts...).Bytes(parts...), slices.Concat(want, want))
	big := mixed(200000, 1)
	writes(t, scan.Write().Bytes(big, big[:1]), slices.Concat(big, big[:1]))
}

// P9.3: numbers have their shortest encodings; from 2^62 on there is none, wherever it stands.
func TestWriteVari(t *testing.T) {
	var want []byte
	w := scan.Write()
	for _, v := range varis {
		writes(t, scan.Write().Vari(v), shortest(v))
		want = append(want, shortest(v)...)
		w.Vari(v)
	}
	writes(t, w, want)
	writes(t, scan.Write().Vari(varis...), want)
	for _, v := range []uint64{1 << 62, 1<<62 + 37, 1 << 63, math.MaxUint64} {
		for at := range 4 {
			list := []uint64{0, 64, 1 << 14, 1 << 30}
			list[at] = v
			fails(t, scan.Write().Vari(list...), api.ErrRange)
		}
		fails(t, scan.Write().Vari(v), api.ErrRange)
	}
}

// P9.3: up to 255 bytes have a length of one byte, and more are too long.
func TestWriteShort(t *testing.T) {
	for n := range 256 {
		b := mixed(n, uint64(n))
		writes(t, scan.Write().Short(b), slices.Concat([]byte{byte(n)}, b))
	}
	for _, n := range []int{256, 257, 300, 511, 512, 65535, 65536, 65537, 70000} {
		fails(t, scan.Write().Short(make([]byte, n)), api.ErrLong)
	}
}

// P9.3: Long has no such bound.
func TestWriteLong(t *testing.T) {
	for _, n := range []int{0, 1, 62, 63, 64, 65, 255, 256, 16383, 16384, 65535, 65536, 70000} {
		b := mixed(n, uint64(n))
		writes(t, scan.Write().Long(b), slices.Concat(shortest(uint64(n)), b))
	}
}

type writerCall struct {
	name string
	call func(w *scan.Writer) *scan.Writer
}

var wrong = []struct {
	writerCall
	want api.Errno
}{
	{writerCall{"Num 256 1", func(w *scan.Writer) *scan.Writer { return w.Num(256, 1) }}, api.ErrRange},
	{writerCall{"Num 1 9", func(w *scan.Writer) *scan.Writer { return w.Num(1, 9) }}, api.ErrRange},
	{writerCall{"Num 0 -1", func(w *scan.Writer) *scan.Writer { return w.Num(0, -1) }}, api.ErrRange},
	{writerCall{"Vari", func(w *scan.Writer) *scan.Writer { return w.Vari(1, 1<<62) }}, api.ErrRange},
	{writerCall{"Short", func(w *scan.Writer) *scan.Writer { return w.Short(make([]byte, 256)) }}, api.ErrLong},
}

var right = []writerCall{
	{"Num", func(w *scan.Writer) *scan.Writer { return w.Num(7, 4) }},
	{"Bytes", func(w *scan.Writer) *scan.Writer { return w.Bytes([]byte{1}, []byte{2}) }},
	{"no Bytes", func(w *scan.Writer) *scan.Writer { return w.Bytes() }},
	{"Vari", func(w *scan.Writer) *scan.Writer { return w.Vari(1, 64) }},
	{"no Vari", func(w *scan.Writer) *scan.Writer { return w.Vari() }},
	{"Short", func(w *scan.Writer) *scan.Writer { return w.Short([]byte{1}) }},
	{"Long", func(w *scan.Writer) *scan.Writer { return w.Long([]byte{1}) }},
}

// P9.3: each call returns the writer itself, with an error as without one.
func TestWriterItself(t *testing.T) {
	for _, c := range right {
		if w := scan.Write(); c.call(w) != w || c.call(w) != w {
			t.Error(c.name)
		}
		for _, f := range wrong {
			if w := scan.Write(); f.call(w) != w || c.call(w) != w || f.call(w) != w {
				t.Error(f.name, c.name)
			}
		}
	}
}

// P9.3: the first error stays, whatever was appended before it, and whatever is called behind it.
func TestWriterErrorStays(t *testing.T) {
	for _, f := range wrong {
		for _, before := range right {
			for _, behind := range right {
				w := before.call(scan.Write())
				if _, e := w.Done(); e != api.OK {
					t.Fatal(before.name, e)
				}
				fails(t, f.call(w), f.want)
				fails(t, behind.call(w), f.want)
				fails(t, w, f.want)
			}
		}
		for _, behind := range wrong {
			fails(t, behind.call(f.call(scan.Write())), f.want)
		}
	}
}

// P9.3: Done ends nothing: it may be called again, and more may be appended.
func TestDoneAgain(t *testing.T) {
	w := scan.Write()
	var want []byte
	for n := range 100 {
		writes(t, w, want)
		writes(t, w, want)
		w.Num(uint64(n), 1)
		want = append(want, byte(n))
	}
	writes(t, w, want)
}

// P9.1 to P9.3: what a writer appends, the reader's function of the same name reads.
func TestReadWhatIsWritten(t *testing.T) {
	for seed := range uint64(300) {
		body, wide := mixed(int(seed%256), seed), mixed(int(seed*seed), seed)
		n, v := mixed64(int(seed)), mixed64(int(seed))>>(2+seed%60)
		b, e := scan.Write().Num(n, 8).Short(body).Vari(v, seed).Bytes(body, wide).Long(wide).Num(n>>8, 7).Bytes(body).Done()
		if e != api.OK {
			t.Fatal(seed, e)
		}
		r := scan.Read(b)
		if r.Num(8) != n || !bytes.Equal(r.Short(), body) || r.Vari() != v || r.Vari() != seed || !bytes.Equal(r.Bytes(len(body)), body) || !bytes.Equal(r.Bytes(len(wide)), wide) {
			t.Fatal(seed, r.Left(), r.Err())
		}
		if !bytes.Equal(r.Long(), wide) || r.Num(7) != n>>8 || !bytes.Equal(r.Rest(), body) || r.End() != api.OK {
			t.Fatal(seed, r.Left(), r.Err())
		}
	}
}

// P9.1, P9.3: a reader keeps nothing of its bytes, and changes nothing in them or behind them.
func TestReadersArgument(t *testing.T) {
	whole := raw(t, "0102"+"02aabb"+"02ccdd"+"25"+"eeff"+"a5a5a5a5")
	b, want := whole[:11], slices.Clone(whole)
	for _, change := range []bool{false, true} {
		r := scan.Read(b)
		if change {
			spoil(b)
		}
		got := slices.Concat(r.Bytes(2), r.Short(), r.Long(), []byte{byte(r.Vari())}, r.Rest())
		if !bytes.Equal(got, raw(t, "0102"+"aabb"+"ccdd"+"25"+"eeff")) || r.End() != api.OK {
			t.Errorf("%x %d", got, r.Err())
		}
		if !change && !bytes.Equal(whole, want) {
			t.Errorf("%x", whole)
		}
	}
}

// P9.1, P9.3: what a reader gives is new memory, to the end of its capacity.
func TestReadersResults(t *testing.T) {
	b := raw(t, "02aabb"+"02ccdd"+"eeff"+"25"+"112233")
	want := slices.Clone(b)
	r := scan.Read(b)
	parts := [][]byte{r.Short(), r.Long(), r.Bytes(0), r.Bytes(2)}
	for i, p := range parts {
		others := slices.Concat(slices.Delete(slices.Clone(parts), i, i+1)...)
		spoil(p)
		if !bytes.Equal(slices.Concat(slices.Delete(slices.Clone(parts), i, i+1)...), others) {
			t.Error(i, parts)
		}
	}
	if v := r.Vari(); v != 37 {
		t.Error(v)
	}
	last := r.Rest()
	if !bytes.Equal(last, []byte{0x11, 0x22, 0x33}) || r.End() != api.OK {
		t.Errorf("%x %d", last, r.Err())
	}
	spoil(last)
	if !bytes.Equal(b, want) {
		t.Errorf("%x", b)
	}
}

// P9.3: a writer keeps nothing of what it is given, and changes nothing in it or behind it.
func TestWritersArguments(t *testing.T) {
	for _, change := range []bool{false, true} {
		whole := []byte{1, 2, 3, 0xa5, 0xa5}
		b, list := whole[:3], []uint64{37, 64, 7}
		parts := [][]byte{b, nil, b[:1]}
		w := scan.Write().Bytes(b)
		if change {
			spoil(b[:3:3])
		}
		w.Bytes(parts...).Short(b).Long(b).Vari(list[:2]...)
		now := slices.Clone(b)
		want := slices.Concat([]byte{1, 2, 3}, now, now[:1], []byte{3}, now, []byte{3}, now, []byte{0x25, 0x40, 0x40})
		if change {
			spoil(b[:3:3])
			list[0], parts[0] = 1, nil
		}
		writes(t, w, want)
		if !change && (!bytes.Equal(whole, []byte{1, 2, 3, 0xa5, 0xa5}) || !slices.Equal(list, []uint64{37, 64, 7}) || len(parts) != 3 || !bytes.Equal(parts[0], b) || parts[1] != nil || !bytes.Equal(parts[2], b[:1])) {
			t.Error(whole, list, parts)
		}
	}
}

// P9.3: what Done gives is new memory each time, to the end of its capacity.
func TestWritersResults(t *testing.T) {
	given := []byte{1, 2, 3}
	for _, w := range []*scan.Writer{scan.Write().Bytes(given), scan.Write().Short(given).Vari(5), scan.Write().Num(1, 8).Long(given), scan.Write()} {
		first, _ := w.Done()
		want := slices.Clone(first)
		second, _ := w.Done()
		spoil(second)
		if !bytes.Equal(first, want) {
			t.Error(first, want)
		}
		writes(t, w, want)
		w.Num(9, 1)
		spoil(first)
		writes(t, w, append(want, 9))
	}
	if !bytes.Equal(given, []byte{1, 2, 3}) {
		t.Error(given)
	}
}

// P9.1 to P9.3: readers of the same bytes are apart, and so are writers.
func TestApart(t *testing.T) {
	b := []byte{1, 2, 3}
	first, second := scan.Read(b), scan.Read(b)
	if first.Num(1) != 1 || first.Num(4) != 0 || first.Err() != api.ErrEnd || first.Left() != 2 {
		t.Error(first.Err(), first.Left())
	}
	if second.Err() != api.OK || second.Left() != 3 || second.Num(3) != 0x010203 || second.End() != api.OK {
		t.Error(second.Err(), second.Left())
	}
	bad, good := scan.Write().Num(1, 9), scan.Write().Num(1, 1)
	fails(t, bad, api.ErrRange)
	writes(t, good, []byte{1})
}

// P9.1 to P9.3: readers and writers of many goroutines do no harm to each other.
func TestAtOnce(t *testing.T) {
	shared := mixed(500, 1)
	var all sync.WaitGroup
	for range 8 {
		all.Go(func() {
			for range 50 {
				r, w := scan.Read(shared), scan.Write()
				for r.Left() > 0 {
					w.Bytes(r.Bytes(1))
				}
				if b, e := w.Done(); !bytes.Equal(b, shared) || e != api.OK {
					t.Error(len(b), e)
				}
			}
		})
	}
	all.Wait()
}
