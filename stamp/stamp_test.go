package stamp_test

import (
	"bytes"
	"crypto/aes"
	"crypto/cipher"
	"encoding/binary"
	"encoding/hex"
	"math"
	"slices"
	"sync"
	"testing"

	"crossway/api"
	"crossway/head"
	"crossway/stamp"
)

func raw(t *testing.T, s string) []byte {
	t.Helper()
	b, err := hex.DecodeString(s)
	if err != nil {
		t.Fatal(s, err)
	}
	return b
}

// mixed are n bytes without a pattern; others for another seed.
func mixed(n int, seed uint64) []byte {
	b := make([]byte, n)
	for i := range b {
		seed = seed*6364136223846793005 + 1442695040888963407
		b[i] = byte(seed >> 40)
	}
	return b
}

// spoil writes over a slice, its spare capacity too. It counts up, so that a second time doesn't undo the first.
func spoil(b []byte) {
	b = b[:cap(b)]
	for i := range b {
		b[i]++
	}
}

// expected is the stamp that Go's own boxes give, with the chapter's key and nonce.
func expected(t *testing.T, id, ahead []byte) []byte {
	t.Helper()
	block, err := aes.NewCipher(raw(t, "be0c690b9f66575a1d766b54e368c84e"))
	if err != nil {
		t.Fatal(err)
	}
	box, err := cipher.NewGCM(block)
	if err != nil {
		t.Fatal(err)
	}
	return box.Seal(nil, raw(t, "461599d35d632bf2239825bb"), nil, slices.Concat([]byte{byte(len(id))}, id, ahead))
}

// header are a long header's bytes, laid out as layer 10's chapter says.
func header(first byte, version uint32, to, from []byte) []byte {
	b := binary.BigEndian.AppendUint32([]byte{first}, version)
	return slices.Concat(b, []byte{byte(len(to))}, to, []byte{byte(len(from))}, from)
}

// packet are a Retry's bytes, laid out as the chapter says, with whatever stamp it has.
func packet(r stamp.Retry) []byte {
	return slices.Concat(header(r.First, r.Version, r.To, r.From), r.Token, r.Stamp)
}

// signed are a Retry's bytes with its stamp for an id.
func signed(t *testing.T, first byte, to, from, id, token []byte) []byte {
	t.Helper()
	ahead := slices.Concat(header(first, 1, to, from), token)
	return slices.Concat(ahead, expected(t, id, ahead))
}

func build(first byte, to, from, token, sign []byte) stamp.Retry {
	return stamp.Retry{Head: head.Head{First: first, Version: 1, To: to, From: from}, Token: token, Stamp: sign}
}

func equal(a, b stamp.Retry) bool {
	return a.First == b.First && a.Version == b.Version && bytes.Equal(a.To, b.To) && bytes.Equal(a.From, b.From) &&
		bytes.Equal(a.Token, b.Token) && bytes.Equal(a.Stamp, b.Stamp)
}

// stamps asks whether Stamp has this result.
func stamps(t *testing.T, id, ahead, want []byte, err api.Errno) {
	t.Helper()
	if s, e := stamp.Stamp(id, ahead); !bytes.Equal(s, want) || e != err {
		t.Fatalf("%d %d: %x %d, not %x %d", len(id), len(ahead), s, e, want, err)
	}
}

// makes asks whether Make has this result.
func makes(t *testing.T, to, from, id, token, want []byte, err api.Errno) {
	t.Helper()
	if b, e := stamp.Make(to, from, id, token); !bytes.Equal(b, want) || e != err {
		t.Fatalf("%d %d %d %d: %x %d, not %x %d", len(to), len(from), len(id), len(token), b, e, want, err)
	}
}

// parses asks whether Parse finds this Retry.
func parses(t *testing.T, b []byte, want stamp.Retry) {
	t.Helper()
	if r, e := stamp.Parse(b); !equal(r, want) || e != api.OK {
		t.Fatalf("%x: %x, %d, not %x", b, r, e, want)
	}
}

// refuses asks whether Parse has this error, and nothing else, and Check has it too, for ids of every kind.
func refuses(t *testing.T, b []byte, want api.Errno) {
	t.Helper()
	if r, e := stamp.Parse(b); !equal(r, stamp.Retry{}) || e != want {
		t.Fatalf("%x: %x, %d, not %d", b, r, e, want)
	}
	for _, id := range [][]byte{nil, make([]byte, 20), make([]byte, 21)} {
		checks(t, b, id, want)
	}
}

// checks asks whether Check has this error.
func checks(t *testing.T, b, id []byte, want api.Errno) {
	t.Helper()
	if e := stamp.Check(b, id); e != want {
		t.Fatalf("%x, %x: %d, not %d", b, id, e, want)
	}
}

// P12.1, P12.2: the chapter's example, which is that of RFC 9001 (Appendix A.4).
func TestExample(t *testing.T) {
	id, from, token := raw(t, "8394c8f03e515708"), raw(t, "f067a5502a4262b5"), raw(t, "746f6b656e")
	ahead, sign := raw(t, "ff000000010008f067a5502a4262b5746f6b656e"), raw(t, "04a265ba2eff4d829058fb3f0f2496ba")
	b := slices.Concat(ahead, sign)
	stamps(t, id, ahead, sign, api.OK)
	makes(t, nil, from, id, token, b, api.OK)
	makes(t, []byte{}, from, id, token, b, api.OK)
	parses(t, b, build(0xff, nil, from, token, sign))
	checks(t, b, id, api.OK)
	if r, _ := stamp.Parse(b); r.Head.First != r.First || !bytes.Equal(r.Head.From, r.From) {
		t.Errorf("%x", r)
	}
}

// P12.1: ids of up to 20 bytes and longer ones, also if their length's low byte would do, with bytes of many lengths.
func TestStampOfIds(t *testing.T) {
	lengths := []int{255, 256, 257, 276, 512, 65535, 65536}
	for n := range 60 {
		lengths = append(lengths, n)
	}
	for _, n := range lengths {
		for _, id := range [][]byte{make([]byte, n), mixed(n, uint64(n)), make([]byte, n, n+21)} {
			for _, m := range []int{0, 1, 15, 16, 17, n, 200} {
				ahead := mixed(m, 5)
				if n > 20 {
					stamps(t, id, ahead, nil, api.ErrLong)
					continue
				}
				stamps(t, id, ahead, expected(t, id, ahead), api.OK)
			}
		}
	}
	stamps(t, nil, nil, expected(t, nil, nil), api.OK)
	stamps(t, []byte{}, []byte{}, expected(t, nil, nil), api.OK)
}

// P12.1: up to 65,000 bytes before the stamp, and not one more; an id that is too long is told first.
func TestStampOfBytes(t *testing.T) {
	for n := range 100 {
		stamps(t, mixed(n%21, 1), mixed(n, 2), expected(t, mixed(n%21, 1), mixed(n, 2)), api.OK)
	}
	for _, n := range []int{0, 1, 19, 20} {
		id := mixed(n, 1)
		for _, m := range []int{4096, 64979, 64980, 64998, 64999, 65000} {
			stamps(t, id, mixed(m, 2), expected(t, id, mixed(m, 2)), api.OK)
			stamps(t, id, make([]byte, m, m+5), expected(t, id, make([]byte, m)), api.OK) // what lies behind the length does not count
		}
		for _, m := range []int{65001, 65002, 65021, 65514, 65515, 65534, 65535, 65536, 70000, 1 << 17} {
			stamps(t, id, make([]byte, m), nil, api.ErrRange)
		}
	}
	for _, n := range []int{21, 255, 256, 65536} {
		for _, m := range []int{0, 65000, 65001, 65536} {
			stamps(t, make([]byte, n), make([]byte, m), nil, api.ErrLong)
		}
	}
}

// P12.1: a byte that goes from the id to the bytes behind it makes another stamp: the id's length is a part of the note.
func TestStampsDiffer(t *testing.T) {
	seen := map[string]bool{}
	whole := mixed(40, 1)
	for n := range 21 {
		s, e := stamp.Stamp(whole[:n], whole[n:])
		if len(s) != 16 || e != api.OK || seen[string(s)] {
			t.Errorf("%d: %x %d", n, s, e)
		}
		seen[string(s)] = true
	}
	for i := range whole {
		for bit := range 8 {
			whole[i] ^= 1 << bit
			s, e := stamp.Stamp(whole[:8], whole[8:])
			if len(s) != 16 || e != api.OK || seen[string(s)] {
				t.Errorf("%d %d: %x %d", i, bit, s, e)
			}
			seen[string(s)] = true
			whole[i] ^= 1 << bit
		}
	}
}

// P12.1: Retries with ids of every length; what is made is parsed and checked again.
func TestMake(t *testing.T) {
	for n := range 21 {
		for _, m := range []int{0, 1, 8, 19, 20, n, 20 - n} {
			to, from, id, token := mixed(n, 1), mixed(m, 2), mixed((n+m)%21, 3), mixed(1+n*m, 4)
			want := signed(t, 0xff, to, from, id, token)
			makes(t, to, from, id, token, want, api.OK)
			parses(t, want, build(0xff, to, from, token, want[len(want)-16:]))
			checks(t, want, id, api.OK)
		}
	}
	makes(t, []byte{0}, []byte{0}, []byte{0}, []byte{0}, signed(t, 0xff, []byte{0}, []byte{0}, []byte{0}, []byte{0}), api.OK)
}

// P12.1: tokens of 1 to 4,096 bytes, and no others.
func TestMakeOfTokens(t *testing.T) {
	to, from, id := mixed(20, 1), mixed(20, 2), mixed(20, 3)
	for _, n := range []int{1, 2, 15, 16, 17, 63, 64, 255, 256, 257, 1000, 4094, 4095, 4096} {
		token := mixed(n, 4)
		makes(t, to, from, id, token, signed(t, 0xff, to, from, id, token), api.OK)
		makes(t, nil, nil, nil, token, signed(t, 0xff, nil, nil, nil, token), api.OK)
	}
	for _, n := range []int{0, 4097, 4098, 8192, 64936, 65000, 65001, 65535, 65536, 65537, 69632, 1 << 20} {
		makes(t, to, from, id, make([]byte, n), nil, api.ErrRange)
		makes(t, nil, nil, nil, make([]byte, n, n+1), nil, api.ErrRange)
	}
	makes(t, nil, nil, nil, nil, nil, api.ErrRange)
}

// P12.1: an id that is too long is told first, whichever of the three it is.
func TestMakeOfLongIds(t *testing.T) {
	for _, n := range []int{21, 22, 40, 255, 256, 257, 276, 65535, 65536} {
		for _, token := range [][]byte{nil, {1}, make([]byte, 4096), make([]byte, 4097), make([]byte, 70000)} {
			for which := range 7 { // each set of ids but the empty one
				ids := [3][]byte{mixed(20, 1), mixed(20, 2), mixed(20, 3)}
				for i := range ids {
					if (which+1)>>i&1 == 1 {
						ids[i] = mixed(n, uint64(i))
					}
				}
				makes(t, ids[0], ids[1], ids[2], token, nil, api.ErrLong)
			}
		}
	}
}

// P12.2: a long header's first byte with the bits of the values 32 and 16 is a Retry's; the others of its bits are kept as they are.
func TestFirstBytes(t *testing.T) {
	for first := range 256 {
		b := signed(t, byte(first), []byte{1, 2}, []byte{3}, []byte{9}, []byte{4, 5})
		if first >= 0xb0 && first <= 0xbf || first >= 0xf0 {
			parses(t, b, build(byte(first), []byte{1, 2}, []byte{3}, []byte{4, 5}, b[len(b)-16:]))
			checks(t, b, []byte{9}, api.OK)
			continue
		}
		refuses(t, b, api.ErrKind)
	}
}

// P12.2: no other version has Retries here, whichever of its bits are other ones.
func TestVersions(t *testing.T) {
	versions := []uint32{0, 2, 3, 9, 0x6b3343cf, 0xff00001d, 0x0a0a0a0a, math.MaxUint32, math.MaxUint32 - 1}
	for bit := range 32 {
		v := uint32(1) << bit
		versions = append(versions, v, v|1, v-1, ^v)
	}
	for _, v := range versions {
		if v == 1 {
			continue
		}
		ahead := slices.Concat(header(0xff, v, []byte{1}, nil), []byte{2})
		refuses(t, slices.Concat(ahead, expected(t, nil, ahead)), api.ErrKind)
		refuses(t, header(0xff, v, []byte{1}, nil), api.ErrKind) // before the token is missed
	}
}

// P12.2: ids of up to 20 bytes, each one's length for itself.
func TestParseOfIds(t *testing.T) {
	for n := range 256 {
		for _, m := range []int{0, 1, 8, 19, 20, 21, 22, 255, n, 255 - n} {
			r := build(0xf0, mixed(n, 1), mixed(m, 2), mixed(1+n%7, 3), mixed(16, 4))
			if n <= 20 && m <= 20 {
				parses(t, packet(r), r)
				continue
			}
			refuses(t, packet(r), api.ErrLong)
		}
	}
}

// P12.2: sixteen bytes after the header are a stamp without a token, and fewer are no stamp; from 17 on, all but the last sixteen are the token, however many.
func TestParseOfTokens(t *testing.T) {
	for _, c := range [][2]int{{0, 0}, {0, 8}, {8, 0}, {20, 20}} {
		ahead := header(0xff, 1, mixed(c[0], 1), mixed(c[1], 2))
		for n := range 60 {
			behind := mixed(n, 3)
			b := slices.Concat(ahead, behind)
			if n < 17 {
				refuses(t, b, api.ErrEnd)
				refuses(t, slices.Concat(b, mixed(30, 4))[:len(b)], api.ErrEnd) // what lies behind the length does not count
				continue
			}
			parses(t, b, build(0xff, mixed(c[0], 1), mixed(c[1], 2), behind[:n-16], behind[n-16:]))
		}
	}
	for _, n := range []int{4096, 4097, 64977, 65000, 65001, 65535, 65536, 1 << 20} {
		token := mixed(n, 1)
		parses(t, slices.Concat(header(0xbf, 1, nil, nil), token, make([]byte, 16)), build(0xbf, nil, nil, token, make([]byte, 16)))
	}
}

// P12.2: of several errors the chapter's first one counts: the header's end, the kind, the ids' lengths, what is after the header.
func TestParseOrder(t *testing.T) {
	refuses(t, nil, api.ErrEnd)
	refuses(t, []byte{}, api.ErrEnd)
	refuses(t, []byte{0x7f}, api.ErrKind)
	refuses(t, make([]byte, 100), api.ErrKind)
	for _, first := range []byte{0x80, 0xb0, 0xc0, 0xef, 0xff} {
		for _, version := range []uint32{0, 1, 2} {
			for _, n := range []int{0, 20, 21, 255} {
				b := header(first, version, mixed(n, 1), mixed(255-n, 2))
				for k := range b {
					refuses(t, b[:k], api.ErrEnd)
				}
				err := api.ErrLong
				if first < 0xf0 && first != 0xb0 || version != 1 {
					err = api.ErrKind
				}
				for _, m := range []int{0, 1, 16, 17, 100} {
					refuses(t, slices.Concat(b, mixed(m, 3)), err)
				}
			}
		}
	}
}

// short is a header's id and what is behind it; false if the bytes end first.
func short(b []byte) ([]byte, []byte, bool) {
	if len(b) == 0 || len(b) < 1+int(b[0]) {
		return nil, nil, false
	}
	return b[1 : 1+b[0]], b[1+int(b[0]):], true
}

// told is what the chapter's words say of bytes, taken one after the other.
func told(b []byte) (stamp.Retry, api.Errno) {
	var none stamp.Retry
	if len(b) == 0 {
		return none, api.ErrEnd
	}
	if b[0] < 128 {
		return none, api.ErrKind
	}
	if len(b) < 5 {
		return none, api.ErrEnd
	}
	to, b1, ok1 := short(b[5:])
	from, b2, ok2 := short(b1)
	if !ok1 || !ok2 {
		return none, api.ErrEnd
	}
	if !bytes.Equal(b[1:5], []byte{0, 0, 0, 1}) || b[0]&0x30 != 0x30 {
		return none, api.ErrKind
	}
	if len(to) > 20 || len(from) > 20 {
		return none, api.ErrLong
	}
	if len(b2) < 17 {
		return none, api.ErrEnd
	}
	return build(b[0], to, from, b2[:len(b2)-16], b2[len(b2)-16:]), api.OK
}

// P12.2: any bytes at all, against the chapter's words.
func TestParseAnyBytes(t *testing.T) {
	seen := map[api.Errno]int{}
	for seed := range uint64(30000) {
		b := mixed(int(seed%90), seed)
		for i := range b {
			switch {
			case i == 0 && seed%5 > 0:
				b[i] |= 0xb0
			case i > 0 && i < 5 && seed%7 > 0:
				b[i] = byte(i / 4)
			case i > 4 && seed%3 > 0:
				b[i] %= 24 // lengths that often fit
			}
		}
		r, e := told(b)
		seen[e]++
		if e != api.OK {
			refuses(t, b, e)
			continue
		}
		parses(t, b, r)
	}
	for _, e := range []api.Errno{api.OK, api.ErrEnd, api.ErrKind, api.ErrLong} {
		if seen[e] < 500 {
			t.Error(seen)
		}
	}
}

// P12.2: whatever bit of a Retry is changed, its stamp is wrong, or it is no Retry any more.
func TestCheckOfEachBit(t *testing.T) {
	for _, c := range []struct{ to, from, id, token []byte }{
		{nil, nil, nil, []byte{0}},
		{mixed(8, 1), mixed(8, 2), mixed(8, 3), mixed(20, 4)},
	} {
		b := signed(t, 0xff, c.to, c.from, c.id, c.token)
		for i := range b {
			for bit := range 8 {
				b[i] ^= 1 << bit
				want := api.ErrTag
				if _, e := told(b); e != api.OK {
					want = e
				}
				checks(t, b, c.id, want)
				b[i] ^= 1 << bit
			}
		}
		checks(t, b, c.id, api.OK)
	}
}

// P12.2: a stamp is that of one id alone.
func TestCheckOfOtherIds(t *testing.T) {
	id := mixed(20, 3)
	for n := range 21 {
		b := signed(t, 0xff, mixed(8, 1), mixed(8, 2), id[:n], mixed(20, 4))
		for m := range 21 {
			want := api.ErrTag
			if m == n {
				want = api.OK
			}
			checks(t, b, id[:m], want)
		}
		for i := range n {
			other := slices.Clone(id[:n])
			other[i] ^= 1 << (i % 8)
			checks(t, b, other, api.ErrTag)
		}
		for _, m := range []int{21, 22, 255, 256, 256 + n, 65536} {
			checks(t, b, slices.Concat(id[:n], make([]byte, m-n)), api.ErrLong)
		}
	}
}

// P12.2: bytes cut off, added, or moved.
func TestCheckOfOtherLengths(t *testing.T) {
	id := mixed(8, 3)
	b := signed(t, 0xff, mixed(8, 1), mixed(8, 2), id, mixed(40, 4))
	for n := range 39 { // a byte of the token stays
		checks(t, b[:len(b)-n-1], id, api.ErrTag)
		checks(t, slices.Concat(b, make([]byte, n+1)), id, api.ErrTag)
		checks(t, slices.Insert(slices.Clone(b), 30, mixed(n+1, 5)...), id, api.ErrTag)
	}
	checks(t, slices.Concat(b, b[len(b)-16:]), id, api.ErrTag)
	checks(t, slices.Concat(b[:len(b)-16], make([]byte, 16)), id, api.ErrTag)
	checks(t, slices.Concat(b[:len(b)-16], slices.Repeat([]byte{255}, 16)), id, api.ErrTag)
}

// P12.2: first what is no Retry, then the id, then the bytes before the stamp that are too many, then the stamp; tokens that Make refuses are checked all the same.
func TestCheckOrder(t *testing.T) {
	for _, c := range []struct {
		ahead int // bytes before the stamp
		err   api.Errno
	}{{8, api.OK}, {4096, api.OK}, {4103, api.OK}, {4104, api.OK}, {5000, api.OK}, {64999, api.OK}, {65000, api.OK}, {65001, api.ErrRange}, {65016, api.ErrRange}, {65017, api.ErrRange}, {65536, api.ErrRange}, {70000, api.ErrRange}} {
		token, id := mixed(c.ahead-7, 1), mixed(20, 2)
		b := signed(t, 0xff, nil, nil, id, token)
		if len(b) != c.ahead+16 {
			t.Fatal(c, len(b))
		}
		checks(t, b, id, c.err)
		checks(t, b, make([]byte, 21), api.ErrLong)
		wrong := slices.Clone(b)
		wrong[len(wrong)-1] ^= 128
		err := c.err
		if err == api.OK {
			err = api.ErrTag
		}
		checks(t, wrong, id, err)
		checks(t, wrong, make([]byte, 21), api.ErrLong)
		wrong[0] = 0xef
		refuses(t, wrong, api.ErrKind)
		wrong[0], wrong[5] = 0xff, 255
		if c.ahead > 300 {
			wrong[6+255] = 0 // the length of the source id, so that the header ends
			refuses(t, wrong, api.ErrLong)
			continue
		}
		refuses(t, wrong, api.ErrEnd)
	}
}

// P12.2: arguments stay as they are, also behind their length.
func TestArgumentsStay(t *testing.T) {
	for _, s := range []string{"ff000000010008f067a5502a4262b5746f6b656e04a265ba2eff4d829058fb3f0f2496ba", "ff000000010000010203040506070809101112131415161718", "ff0000000100000102", "ff0000000115", "df00000001000001", "40", "ff"} {
		whole := raw(t, s+"a5a5a5a5"+"8394c8f03e515708"+"a5a5a5a5")
		b, id := whole[:len(s)/2], whole[len(s)/2+4:len(s)/2+12]
		stamp.Parse(b)
		stamp.Check(b, id)
		stamp.Check(b, id[:7])
		stamp.Check(b, b)
		stamp.Check(id, b)
		stamp.Stamp(id, b)
		stamp.Stamp(b, id)
		if !bytes.Equal(whole, raw(t, s+"a5a5a5a5"+"8394c8f03e515708"+"a5a5a5a5")) {
			t.Errorf("%s: %x", s, whole)
		}
	}
	all := mixed(600, 1)
	for _, n := range []int{0, 1, 8, 20, 21, 100} {
		stamp.Make(all[:n], all[100:100+n], all[200:200+n], all[300:300+n])
		stamp.Make(all[:n], all[:n], all[:n], all[:n+1])
		if !bytes.Equal(all, mixed(600, 1)) {
			t.Error(n)
		}
	}
}

// P12.2: what Parse gives shares no memory: not with its argument, nor one part with another, to the end of their capacity.
func TestParsedIsNew(t *testing.T) {
	b := raw(t, "ff00000001"+"020708"+"03aabbcc"+"01020304"+"000102030405060708090a0b0c0d0e0f")
	want := slices.Clone(b)
	for at := range 4 {
		r, e := stamp.Parse(b)
		if e != api.OK {
			t.Fatal(e)
		}
		others := slices.Delete([][]byte{r.To, r.From, r.Token, r.Stamp}, at, at+1)
		before := slices.Concat(others...)
		spoil([][]byte{r.To, r.From, r.Token, r.Stamp}[at])
		if got := slices.Concat(others...); !bytes.Equal(got, before) || !bytes.Equal(b, want) {
			t.Errorf("%d: %x, not %x; %x", at, got, before, b)
		}
	}
	r, _ := stamp.Parse(b)
	spoil(b)
	if !equal(r, build(0xff, []byte{7, 8}, raw(t, "aabbcc"), []byte{1, 2, 3, 4}, raw(t, "000102030405060708090a0b0c0d0e0f"))) {
		t.Errorf("%x", r)
	}
}

// P12.2: what Stamp and Make give is new memory each time, to the end of its capacity.
func TestResultsAreNew(t *testing.T) {
	to, from, id, token := mixed(8, 1), mixed(9, 2), mixed(10, 3), mixed(30, 4)
	for i, call := range []func() ([]byte, api.Errno){
		func() ([]byte, api.Errno) { return stamp.Stamp(id, token) },
		func() ([]byte, api.Errno) { return stamp.Stamp(nil, nil) },
		func() ([]byte, api.Errno) { return stamp.Make(to, from, id, token) },
		func() ([]byte, api.Errno) { return stamp.Make(to, to, to, to) },
	} {
		first, _ := call()
		second, _ := call()
		want := slices.Clone(first)
		spoil(first)
		third, e := call()
		if len(want) < 16 || !bytes.Equal(second, want) || !bytes.Equal(third, want) || e != api.OK {
			t.Errorf("%d: %x, then %x and %x", i, want, second, third)
		}
	}
	sign, _ := stamp.Stamp(id, token)
	made, _ := stamp.Make(to, from, id, token)
	before := slices.Concat(sign, made)
	for _, part := range [][]byte{to, from, id, token} {
		spoil(part)
	}
	if got := slices.Concat(sign, made); !bytes.Equal(got, before) {
		t.Errorf("%x, not %x", got, before)
	}
}

// P12.1, P12.2: calls of many goroutines do no harm to each other.
func TestAtOnce(t *testing.T) {
	to, from, id, token := mixed(20, 1), mixed(20, 2), mixed(20, 3), mixed(200, 4)
	b := signed(t, 0xff, to, from, id, token)
	want := build(0xff, to, from, token, b[len(b)-16:])
	var all sync.WaitGroup
	for range 8 {
		all.Go(func() {
			for range 20 {
				if r, e := stamp.Parse(b); e != api.OK || !equal(r, want) {
					t.Errorf("%x %d", r, e)
				}
				if made, e := stamp.Make(to, from, id, token); e != api.OK || !bytes.Equal(made, b) {
					t.Errorf("%x %d", made, e)
				}
				if e := stamp.Check(b, id); e != api.OK {
					t.Error(e)
				}
				if e := stamp.Check(b, id[:19]); e != api.ErrTag {
					t.Error(e)
				}
			}
		})
	}
	all.Wait()
}
