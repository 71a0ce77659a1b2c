package token_test

import (
	"bytes"
	standard "crypto/aes"
	"crypto/cipher"
	"encoding/binary"
	"math"
	"slices"
	"sync"
	"testing"

	"crossway/api"
	"crossway/poly"
	"crossway/ring"
	"crossway/token"
)

// moments are times and expiries at the edges of their bytes.
var moments = []uint64{0, 1, 2, 99, 100, 101, 255, 256, 65535, 65536, 1<<32 - 1, 1 << 32, 0x0102030405060708, math.MaxInt64, 1 << 63, math.MaxUint64 - 1, math.MaxUint64}

// mixed are n bytes without a pattern; others for another seed.
func mixed(n int, seed uint64) []byte {
	b := make([]byte, n)
	for i := range b {
		seed = seed*6364136223846793005 + 1442695040888963407
		b[i] = byte(seed >> 40)
	}
	return b
}

// spoil writes over a slice, its spare capacity too. It counts up, so that a second time doesn't undo the first.
func spoil(b []byte) {
	b = b[:cap(b)]
	for i := range b {
		b[i]++
	}
}

// fields have ids of these lengths.
func fields(expiry uint64, odcid, scid int) token.Fields {
	return token.Fields{Expiry: expiry, Odcid: mixed(odcid, expiry+1), Scid: mixed(scid, expiry+2)}
}

// laid are the encoded fields, as the chapter's words say, also those with ids that are too long.
func laid(f token.Fields) []byte {
	b := binary.BigEndian.AppendUint64(nil, f.Expiry)
	return slices.Concat(b, []byte{byte(len(f.Odcid))}, f.Odcid, []byte{byte(len(f.Scid))}, f.Scid)
}

// told are the fields of bytes, as the chapter's words say.
func told(b []byte) (token.Fields, api.Errno) {
	if len(b) < 9 {
		return token.Fields{}, api.ErrEnd
	}
	at := 9 + int(b[8])
	if len(b) < at+1 {
		return token.Fields{}, api.ErrEnd
	}
	end := at + 1 + int(b[at])
	switch {
	case len(b) < end:
		return token.Fields{}, api.ErrEnd
	case len(b) > end, b[8] > 20, b[at] > 20:
		return token.Fields{}, api.ErrForm
	}
	return token.Fields{Expiry: binary.BigEndian.Uint64(b), Odcid: b[9:at], Scid: b[at+1:]}, api.OK
}

func equal(a, b token.Fields) bool {
	return a.Expiry == b.Expiry && bytes.Equal(a.Odcid, b.Odcid) && bytes.Equal(a.Scid, b.Scid)
}

// key is the key that a number has in the rings of these tests.
func key(seq int) []byte { return mixed(16, uint64(seq)+1000) }

func with(t *testing.T, seqs ...int) *ring.Ring {
	t.Helper()
	r := ring.New()
	for _, seq := range seqs {
		if e := r.Install(seq, key(seq)); e != api.OK {
			t.Fatal(seq, e)
		}
	}
	return r
}

// sealed is a token around any text for any client, made by Go's own GCM.
func sealed(t *testing.T, seq int, nonce, client, text []byte) []byte {
	t.Helper()
	c, err := standard.NewCipher(key(seq))
	if err != nil {
		t.Fatal(err)
	}
	own, err := cipher.NewGCM(c)
	if err != nil {
		t.Fatal(err)
	}
	first := []byte{byte(seq)}
	return slices.Concat(first, nonce, own.Seal(nil, nonce, text, slices.Concat(first, client)))
}

// asks are the calls of one test.
type asks struct{ *testing.T }

// writes asks whether Text has this result.
func (a asks) writes(f token.Fields, want []byte, err api.Errno) {
	a.Helper()
	if b, e := token.Text(f); !bytes.Equal(b, want) || e != err {
		a.Fatalf("%x: %x %d, not %x %d", f, b, e, want, err)
	}
}

// reads asks whether Untext has this result.
func (a asks) reads(b []byte, want token.Fields, err api.Errno) {
	a.Helper()
	if f, e := token.Untext(b); !equal(f, want) || e != err {
		a.Fatalf("%x: %x %d, not %x %d", b, f, e, want, err)
	}
}

// seals asks whether Seal has this result.
func (a asks) seals(r *ring.Ring, seq int, nonce, client []byte, f token.Fields, want []byte, err api.Errno) {
	a.Helper()
	if b, e := token.Seal(r, seq, nonce, client, f); !bytes.Equal(b, want) || e != err {
		a.Fatalf("%d, %x, %x, %x: %x %d, not %x %d", seq, nonce, client, f, b, e, want, err)
	}
}

// opens asks whether Open has this result.
func (a asks) opens(r *ring.Ring, client, b []byte, now uint64, want token.Fields, err api.Errno) {
	a.Helper()
	if f, e := token.Open(r, client, b, now); !equal(f, want) || e != err {
		a.Fatalf("%x, %x, %d: %x %d, not %x %d", client, b, now, f, e, want, err)
	}
}

// refuses asks whether Open has this error, and nothing else, at the time 0.
func (a asks) refuses(r *ring.Ring, client, b []byte, err api.Errno) {
	a.Helper()
	a.opens(r, client, b, 0, token.Fields{}, err)
}

// failed is how many calls of Open a number's box has counted.
func (a asks) failed(r *ring.Ring, seq int) int {
	a.Helper()
	b, ok := r.Box(seq)
	if !ok {
		a.Fatal(seq)
	}
	return b.Failed()
}

// P20.2, P20.3: the chapter's example.
func TestExample(t *testing.T) {
	a, r, f := asks{t}, with(t, 3), fields(100, 8, 9)
	nonce, client := mixed(12, 1), mixed(6, 2)
	b, e := token.Seal(r, 3, nonce, client, f)
	if e != api.OK {
		t.Fatal(e)
	}
	a.opens(r, client, b, 100, f, api.OK)
	a.opens(r, client, b, 101, token.Fields{}, api.ErrOld)
}

// P20.1: the encoding, byte by byte.
func TestTextBytes(t *testing.T) {
	a := asks{t}
	a.writes(token.Fields{}, make([]byte, 10), api.OK)
	a.writes(token.Fields{Odcid: []byte{}, Scid: []byte{}}, make([]byte, 10), api.OK)
	a.writes(token.Fields{Expiry: 0x0102030405060708, Odcid: []byte{9, 10, 11}, Scid: []byte{12}}, []byte{1, 2, 3, 4, 5, 6, 7, 8, 3, 9, 10, 11, 1, 12}, api.OK)
	a.writes(token.Fields{Expiry: math.MaxUint64, Scid: []byte{0}}, []byte{255, 255, 255, 255, 255, 255, 255, 255, 0, 1, 0}, api.OK)
	a.reads([]byte{1, 2, 3, 4, 5, 6, 7, 8, 3, 9, 10, 11, 1, 12}, token.Fields{Expiry: 0x0102030405060708, Odcid: []byte{9, 10, 11}, Scid: []byte{12}}, api.OK)
}

// P20.1: ids of every length that they may have, both ways, and each expiry.
func TestTexts(t *testing.T) {
	a := asks{t}
	for o := range 21 {
		for s := range 21 {
			f := fields(uint64(o*s), o, s)
			a.writes(f, laid(f), api.OK)
			a.reads(laid(f), f, api.OK)
		}
	}
	for _, expiry := range moments {
		f := fields(expiry, 4, 5)
		a.writes(f, laid(f), api.OK)
		a.reads(laid(f), f, api.OK)
	}
}

// P20.1: an id with more than 20 bytes has no encoding; one whose length would fit into the byte again has none either.
func TestTextLong(t *testing.T) {
	a := asks{t}
	for _, n := range []int{21, 22, 63, 64, 254, 255, 256, 257, 266, 276, 65535, 65536, 65546} {
		for _, o := range []int{0, 1, 20, 21} {
			a.writes(fields(5, n, o), nil, api.ErrLong)
			a.writes(fields(5, o, n), nil, api.ErrLong)
		}
	}
}

// P20.1: bytes that are cut at each place, and those with others behind them.
func TestUntextCut(t *testing.T) {
	a := asks{t}
	for _, f := range []token.Fields{{}, fields(7, 0, 20), fields(8, 20, 0), fields(9, 20, 20), fields(math.MaxUint64, 3, 1)} {
		b := laid(f)
		for n := range b {
			a.reads(b[:n], token.Fields{}, api.ErrEnd)
		}
		a.reads(b, f, api.OK)
		for _, n := range []int{1, 2, 20, 255, 256, 70000} {
			a.reads(slices.Concat(b, make([]byte, n)), token.Fields{}, api.ErrForm)
			a.reads(slices.Concat(b, mixed(n, 1)), token.Fields{}, api.ErrForm)
		}
	}
	a.reads(nil, token.Fields{}, api.ErrEnd)
}

// P20.1: each length from 21 on gives ErrForm, for either id, but ErrEnd first where the bytes end.
func TestUntextLong(t *testing.T) {
	a := asks{t}
	for n := range 256 {
		for _, o := range []int{0, 20, 21, 255} {
			for _, f := range []token.Fields{fields(6, n, o), fields(6, o, n)} {
				b := laid(f)
				if n <= 20 && o <= 20 {
					a.reads(b, f, api.OK)
				} else {
					a.reads(b, token.Fields{}, api.ErrForm)
					a.reads(slices.Concat(b, []byte{0}), token.Fields{}, api.ErrForm)
				}
				for _, short := range []int{1, 2, 5} {
					a.reads(b[:len(b)-short], token.Fields{}, api.ErrEnd)
				}
			}
		}
	}
	a.reads([]byte{0, 0, 0, 0, 0, 0, 0, 0, 21}, token.Fields{}, api.ErrEnd)
	a.reads(slices.Concat(make([]byte, 8), []byte{21}, make([]byte, 21)), token.Fields{}, api.ErrEnd)
}

// P20.1: any bytes against the chapter's words; what can be read is written as the same bytes.
func TestUntextAny(t *testing.T) {
	a, good := asks{t}, 0
	for seed := range 30000 {
		b := mixed(seed%60, uint64(seed))
		for _, at := range []int{8, 9, 10, 11, 12, 20} {
			if at < len(b) {
				b[at] %= 24
			}
		}
		f, e := told(b)
		a.reads(b, f, e)
		if e == api.OK {
			good++
			a.writes(f, b, api.OK)
		}
	}
	if good < 100 {
		t.Error(good)
	}
}

// P20.1: tokens against Go's own GCM: every number, addresses and ids at their edges.
func TestSeal(t *testing.T) {
	a := asks{t}
	for seq := range 128 {
		r, f, nonce, client := with(t, seq), fields(uint64(seq), seq%21, seq*7%21), mixed(12, uint64(seq)), mixed(seq%65, 9)
		want := sealed(t, seq, nonce, client, laid(f))
		a.seals(r, seq, nonce, client, f, want, api.OK)
		a.opens(r, client, want, 0, f, api.OK)
	}
	r := with(t, 5, 0, 127)
	for n := range 65 {
		client, nonce := mixed(n, 4), mixed(12, uint64(n))
		for _, f := range []token.Fields{{}, fields(1, 20, 20), fields(math.MaxUint64, 0, 20), fields(2, 20, 0)} {
			for _, seq := range []int{0, 5, 127} {
				want := sealed(t, seq, nonce, client, laid(f))
				a.seals(r, seq, nonce, client, f, want, api.OK)
				a.seals(r, seq, nonce, client, f, want, api.OK)
				a.opens(r, client, want, f.Expiry, f, api.OK)
			}
		}
	}
}

// P20.1: what Seal refuses, and that a missing key counts ahead of nonce and address, and these ahead of the ids.
func TestSealRefused(t *testing.T) {
	a, r := asks{t}, with(t, 5, 0, 127)
	good, nonce, client := fields(1, 2, 3), mixed(12, 1), mixed(4, 2)
	long := []token.Fields{fields(1, 21, 0), fields(1, 0, 21), fields(1, 256, 256)}
	for _, seq := range []int{math.MinInt, -256, -251, -128, -123, -1, 1, 4, 6, 126, 128, 133, 255, 256, 261, 1 << 32, 1<<32 + 5, math.MaxInt} {
		for _, f := range append(long, good) {
			a.seals(r, seq, nonce, client, f, nil, api.ErrNone)
			a.seals(r, seq, nil, client, f, nil, api.ErrNone)
			a.seals(r, seq, nonce, mixed(65, 1), f, nil, api.ErrNone)
		}
	}
	a.seals(ring.New(), 0, nonce, client, good, nil, api.ErrNone)
	for _, f := range append(long, good) {
		for _, n := range []int{0, 1, 8, 11, 13, 16, 24, 255, 256, 268, 65548} {
			a.seals(r, 5, mixed(n, 1), client, f, nil, api.ErrRange)
			a.seals(r, 5, mixed(n, 1), mixed(65, 1), f, nil, api.ErrRange)
		}
		for _, n := range []int{65, 66, 128, 255, 256, 257, 320, 65535, 65536, 65540} {
			a.seals(r, 5, nonce, mixed(n, 1), f, nil, api.ErrRange)
		}
	}
	for _, f := range long {
		a.seals(r, 5, nonce, client, f, nil, api.ErrLong)
		a.seals(r, 5, nonce, mixed(64, 1), f, nil, api.ErrLong)
	}
	a.seals(r, 5, mixed(12, 1)[:11], client, good, nil, api.ErrRange) // what lies behind the length does not count
	a.seals(r, 5, nonce, client, good, sealed(t, 5, nonce, client, laid(good)), api.OK)
}

// P20.2: fewer than 29 bytes, whatever they and the address are.
func TestOpenEnd(t *testing.T) {
	a, r := asks{t}, with(t, 5, 0)
	b := sealed(t, 5, mixed(12, 1), mixed(4, 2), laid(fields(9, 8, 8)))
	for n := range 29 {
		for _, client := range [][]byte{nil, mixed(4, 2), mixed(64, 2), mixed(65, 2), mixed(70000, 2)} {
			a.refuses(r, client, b[:n], api.ErrEnd)
			a.refuses(ring.New(), client, b[:n], api.ErrEnd)
			a.refuses(r, client, make([]byte, n), api.ErrEnd)
			a.refuses(r, client, bytes.Repeat([]byte{255}, n), api.ErrEnd)
		}
	}
	for n := 29; n < len(b); n++ {
		a.refuses(r, mixed(4, 2), b[:n], api.ErrTag)
	}
	a.opens(r, mixed(4, 2), b, 9, fields(9, 8, 8), api.OK)
}

// P20.2: each first byte that is no installed key's number gives ErrNone, ahead of addresses and tokens that are too long.
func TestOpenNone(t *testing.T) {
	a, seqs := asks{t}, []int{5, 0, 127, 64}
	r := with(t, seqs...)
	for first := range 256 {
		want := api.ErrNone
		if slices.Contains(seqs, first) {
			want = api.ErrTag
		}
		for _, n := range []int{29, 30, 4096, 4097, 70000} {
			b := mixed(n, 1)
			b[0] = byte(first)
			a.refuses(r, mixed(4, 2), b, want)
			a.refuses(r, mixed(65, 2), b, want)
			a.refuses(ring.New(), mixed(4, 2), b, api.ErrNone)
		}
	}
}

// P20.2: an address with more than 64 bytes gives ErrTag, even if the box could open the token.
func TestOpenLongAddress(t *testing.T) {
	a, r, f := asks{t}, with(t, 5), fields(9, 8, 8)
	for _, n := range []int{63, 64, 65, 66, 128, 255, 256, 260, 320, 65534, 65535, 65536} {
		client := mixed(n, 1)
		b := sealed(t, 5, mixed(12, 1), client, laid(f))
		if n <= 64 {
			a.opens(r, client, b, 9, f, api.OK)
			continue
		}
		a.refuses(r, client, b, api.ErrTag)
		a.opens(r, client, b, 10, token.Fields{}, api.ErrTag)
		a.refuses(r, client[:64], b, api.ErrTag)
	}
}

// P20.2: a token with more than 4,096 bytes gives ErrTag, even if the box could open it; one with 4,096 is opened, and its text read.
func TestOpenLongToken(t *testing.T) {
	a, r, client := asks{t}, with(t, 5), mixed(4, 1)
	for _, n := range []int{4095, 4096, 4097, 4098, 8192, 65535, 65536, 65564, 65565, 70000} {
		b := sealed(t, 5, mixed(12, 1), client, make([]byte, n-29))
		if len(b) != n {
			t.Fatal(len(b))
		}
		want := api.ErrForm
		if n > 4096 {
			want = api.ErrTag
		}
		a.refuses(r, client, b, want)
		a.refuses(r, client[:3], b, api.ErrTag)
	}
}

// P20.2: what a token's box opens is read by Untext, whose error counts ahead of an expiry that is over.
func TestOpenText(t *testing.T) {
	a, r, client := asks{t}, with(t, 5), mixed(4, 1)
	whole := laid(fields(0, 3, 4))
	texts := [][]byte{nil, whole, append(whole, 0), laid(fields(0, 21, 0)), laid(fields(0, 0, 21)), laid(fields(9, 255, 255)), laid(fields(9, 20, 20)), mixed(100, 1), make([]byte, 10), make([]byte, 11)}
	for n := range whole {
		texts = append(texts, whole[:n])
	}
	for _, text := range texts {
		b := sealed(t, 5, mixed(12, 7), client, text)
		for _, now := range moments {
			f, e := told(text)
			if e == api.OK && f.Expiry < now {
				f, e = token.Fields{}, api.ErrOld
			}
			a.opens(r, client, b, now, f, e)
			a.opens(r, client[1:], b, now, token.Fields{}, api.ErrTag)
		}
	}
}

// P20.2, P20.3: a token is valid up to its expiry, that time included.
func TestOpenTimes(t *testing.T) {
	a, r, client := asks{t}, with(t, 5), mixed(4, 1)
	for _, expiry := range moments {
		f := fields(expiry, 3, 4)
		b, e := token.Seal(r, 5, mixed(12, 1), client, f)
		if e != api.OK {
			t.Fatal(e)
		}
		for _, now := range moments {
			if now <= expiry {
				a.opens(r, client, b, now, f, api.OK)
			} else {
				a.opens(r, client, b, now, token.Fields{}, api.ErrOld)
			}
		}
	}
}

// P20.2: each bit of a token counts, and each byte more or less.
func TestOpenChanged(t *testing.T) {
	a, r, client, f := asks{t}, with(t, 5, 4, 7), mixed(6, 1), fields(9, 8, 9)
	b, e := token.Seal(r, 5, mixed(12, 1), client, f)
	if e != api.OK {
		t.Fatal(e)
	}
	for bit := range len(b) * 8 {
		c := slices.Clone(b)
		c[bit/8] ^= 1 << (bit % 8)
		want := api.ErrTag
		if bit < 8 && c[0] != 4 && c[0] != 7 {
			want = api.ErrNone
		}
		a.refuses(r, client, c, want)
	}
	a.refuses(r, client, append(slices.Clone(b), 0), api.ErrTag)
	a.refuses(r, client, slices.Delete(slices.Clone(b), 13, 14), api.ErrTag)
	a.opens(r, client, b, 9, f, api.OK)
}

// P20.3: each bit of an address counts, and each byte more or less.
func TestOpenForAnother(t *testing.T) {
	a, r, f := asks{t}, with(t, 5), fields(9, 8, 9)
	for _, n := range []int{0, 1, 6, 15, 16, 18, 63, 64} {
		client := mixed(n, 1)
		b, e := token.Seal(r, 5, mixed(12, 1), client, f)
		if e != api.OK {
			t.Fatal(e)
		}
		for bit := range n * 8 {
			other := slices.Clone(client)
			other[bit/8] ^= 1 << (bit % 8)
			a.refuses(r, other, b, api.ErrTag)
		}
		for other := range 70 {
			if other != n {
				a.refuses(r, mixed(other, 1), b, api.ErrTag)
				a.refuses(r, make([]byte, other), b, api.ErrTag)
			}
		}
		a.refuses(r, append([]byte{0}, client...), b, api.ErrTag)
		a.refuses(r, append([]byte{5}, client...), b, api.ErrTag)
		a.opens(r, client, b, 9, f, api.OK)
	}
}

// P20.3: another client with the same tag can use the token. Whoever has the key finds such a one: what one block adds, the next one takes away.
func TestOpenForTheSameTag(t *testing.T) {
	a, r, f := asks{t}, with(t, 5), fields(9, 8, 9)
	c, err := standard.NewCipher(key(5))
	if err != nil {
		t.Fatal(err)
	}
	h := make([]byte, 16)
	c.Encrypt(h, h)
	by, _ := poly.Of(h)
	more := append([]byte{0}, mixed(15, 77)...) // not the byte of the number
	one, e := poly.Of(more)
	if e != api.OK {
		t.Fatal(e)
	}
	client, other := mixed(31, 1), slices.Concat(more[1:], one.Times(by).Bytes())
	for i := range client {
		other[i] ^= client[i]
	}
	b, e := token.Seal(r, 5, mixed(12, 1), client, f)
	if e != api.OK || bytes.Equal(client, other) {
		t.Fatal(e)
	}
	a.opens(r, client, b, 9, f, api.OK)
	a.opens(r, other, b, 9, f, api.OK)
	other[30] ^= 1
	a.refuses(r, other, b, api.ErrTag)
}

// P20.3: a token lives as long as its key: it is of no use while the key is gone, or another one has its number.
func TestOpenWithoutKey(t *testing.T) {
	a, r, client, f := asks{t}, with(t, 4, 5), mixed(6, 1), fields(9, 8, 9)
	b, e := token.Seal(r, 5, mixed(12, 1), client, f)
	if e != api.OK {
		t.Fatal(e)
	}
	do := func(e api.Errno) {
		t.Helper()
		if e != api.OK {
			t.Fatal(e)
		}
	}
	do(r.Install(6, key(6))) // one that is newer
	a.opens(r, client, b, 9, f, api.OK)
	copied := r.Clone()
	do(r.Retire(5))
	a.refuses(r, client, b, api.ErrNone)
	a.seals(r, 5, mixed(12, 1), client, f, nil, api.ErrNone)
	do(r.Install(5, key(6)))
	a.refuses(r, client, b, api.ErrTag)
	do(r.Retire(5))
	do(r.Install(5, key(5)))
	a.opens(r, client, b, 9, f, api.OK)
	do(r.Retire(5))
	do(r.Install(9, key(5))) // the same key at another number
	a.refuses(r, client, b, api.ErrNone)
	b[0] = 9
	a.refuses(r, client, b, api.ErrTag)
	b[0] = 5
	a.opens(copied, client, b, 9, f, api.OK)
}

// P20.2: whatever Seal and Open answer, the ring's keys stay; a box counts only tokens that it was given.
func TestRingStays(t *testing.T) {
	a, r, client, f := asks{t}, with(t, 4, 5, 1), mixed(6, 1), fields(9, 8, 9)
	b, e := token.Seal(r, 5, mixed(12, 1), client, f)
	if e != api.OK {
		t.Fatal(e)
	}
	a.opens(r, client, b, 9, f, api.OK)
	a.opens(r, client, b, 10, token.Fields{}, api.ErrOld)
	a.refuses(r, client, b[:28], api.ErrEnd)
	a.refuses(r, mixed(65, 1), b, api.ErrTag)
	a.refuses(r, client, slices.Concat(b, make([]byte, 4096)), api.ErrTag)
	a.refuses(r, client, sealed(t, 5, mixed(12, 1), client, nil), api.ErrEnd)
	a.seals(r, 5, nil, client, f, nil, api.ErrRange)
	if n := a.failed(r, 5); n != 0 {
		t.Error(n)
	}
	a.refuses(r, client[1:], b, api.ErrTag)
	if n := a.failed(r, 5); n != 1 {
		t.Error(n)
	}
	if n := a.failed(r, 4) + a.failed(r, 1); n != 0 {
		t.Error(n)
	}
	if seqs := r.Seqs(); !slices.Equal(seqs, []int{4, 5, 1}) {
		t.Error(seqs)
	}
	for _, seq := range r.Seqs() {
		if k, ok := r.Key(seq); !ok || !bytes.Equal(k, key(seq)) {
			t.Errorf("%d: %x %v", seq, k, ok)
		}
	}
}

// P20.2: every first byte, whatever follows it.
func TestSeq(t *testing.T) {
	for first := range 256 {
		for _, n := range []int{0, 1, 28, 5000} {
			want := 0
			if first < 128 {
				want = first
			}
			if seq, ok := token.Seq(append([]byte{byte(first)}, mixed(n, 1)...)); seq != want || ok != (first < 128) {
				t.Errorf("%d: %d %v", first, seq, ok)
			}
		}
	}
	for _, b := range [][]byte{nil, {}, []byte{5, 6}[:0]} {
		if seq, ok := token.Seq(b); seq != 0 || ok {
			t.Error(seq, ok)
		}
	}
}

// P20.2: each field alone makes a difference; a nil id equals an empty one, and ids that no token has are compared too.
func TestSame(t *testing.T) {
	same := func(x, y token.Fields, want bool) {
		t.Helper()
		if token.Same(x, y) != want || token.Same(y, x) != want || !token.Same(x, x) || !token.Same(y, y) {
			t.Errorf("%x, %x: not %v", x, y, want)
		}
	}
	same(token.Fields{}, token.Fields{Odcid: []byte{}, Scid: []byte{}}, true)
	for _, n := range []int{0, 1, 20, 21, 300} {
		f := fields(7, n, n)
		same(f, fields(7, n, n), true)
		for bit := range 64 {
			same(f, token.Fields{Expiry: 7 ^ 1<<bit, Odcid: f.Odcid, Scid: f.Scid}, false)
		}
		same(f, token.Fields{Expiry: 7, Odcid: append(slices.Clone(f.Odcid), 0), Scid: f.Scid}, false)
		same(f, token.Fields{Expiry: 7, Odcid: f.Odcid, Scid: append(slices.Clone(f.Scid), 0)}, false)
		same(f, token.Fields{Expiry: 7, Odcid: f.Scid, Scid: f.Odcid}, n == 0)
		for i := range n {
			other := fields(7, n, n)
			other.Odcid[i] ^= 128
			same(f, other, false)
			other.Odcid[i] ^= 128
			other.Scid[i] ^= 1
			same(f, other, false)
		}
	}
	same(token.Fields{Odcid: []byte{1}}, token.Fields{Scid: []byte{1}}, false)
	same(token.Fields{Odcid: []byte{1, 2}, Scid: []byte{3}}, token.Fields{Odcid: []byte{1}, Scid: []byte{2, 3}}, false)
}

// P20.3: arguments stay as they are, what lies behind their end too, and results share no memory with them.
func TestArguments(t *testing.T) {
	a, r := asks{t}, with(t, 5)
	whole := mixed(200, 3)
	was := slices.Clone(whole)
	nonce, client, f := whole[:12], whole[12:30], token.Fields{Expiry: 9, Odcid: whole[30:38], Scid: whole[38:50]}
	copied := fields(9, 8, 12)
	copy(copied.Odcid, f.Odcid)
	copy(copied.Scid, f.Scid)
	want := sealed(t, 5, nonce, client, laid(f))
	text, _ := token.Text(f)
	b, e := token.Seal(r, 5, nonce, client, f)
	if e != api.OK || !bytes.Equal(whole, was) {
		t.Errorf("%d: %x, not %x", e, whole, was)
	}
	spoil(whole)
	if !bytes.Equal(b, want) || !bytes.Equal(text, laid(copied)) {
		t.Errorf("%x, %x", b, text)
	}
	back, e := token.Open(r, was[12:30], b, 9)
	if e != api.OK || !bytes.Equal(b, want) || !bytes.Equal(was, mixed(200, 3)) {
		t.Errorf("%d: %x, %x", e, b, was)
	}
	read, e := token.Untext(text)
	if e != api.OK || !bytes.Equal(text, laid(copied)) {
		t.Errorf("%d: %x", e, text)
	}
	spoil(b)
	spoil(text)
	spoil(was)
	if !equal(back, copied) || !equal(read, copied) {
		t.Errorf("%x, %x, not %x", back, read, copied)
	}
	a.opens(r, mixed(200, 3)[12:30], want, 9, copied, api.OK)
}

// P20.3: no two results share memory, not even the ids of one.
func TestResultsAreNew(t *testing.T) {
	a, r, client, f := asks{t}, with(t, 5), mixed(6, 1), fields(9, 8, 12)
	want := sealed(t, 5, mixed(12, 1), client, laid(f))
	for range 2 {
		first, _ := token.Seal(r, 5, mixed(12, 1), client, f)
		again, _ := token.Seal(r, 5, mixed(12, 1), client, f)
		text, _ := token.Text(f)
		spoil(first)
		spoil(text)
		if !bytes.Equal(again, want) {
			t.Errorf("%x, not %x", again, want)
		}
		a.writes(f, laid(f), api.OK)
		for _, open := range []func() (token.Fields, api.Errno){
			func() (token.Fields, api.Errno) { return token.Open(r, client, want, 9) },
			func() (token.Fields, api.Errno) { return token.Untext(laid(f)) },
		} {
			one, _ := open()
			spoil(one.Odcid)
			if !bytes.Equal(one.Scid, f.Scid) {
				t.Errorf("%x, not %x", one.Scid, f.Scid)
			}
			other, _ := open()
			spoil(other.Scid)
			if !bytes.Equal(other.Odcid, f.Odcid) {
				t.Errorf("%x, not %x", other.Odcid, f.Odcid)
			}
		}
		a.opens(r, client, want, 9, f, api.OK)
	}
}

// P20.3: many goroutines with one ring do no harm to each other.
func TestAtOnce(t *testing.T) {
	r, f := with(t, 5, 6), fields(9, 8, 12)
	want := sealed(t, 5, mixed(12, 1), mixed(6, 1), laid(f))
	var all sync.WaitGroup
	for range 8 {
		all.Go(func() {
			for range 20 {
				b, e := token.Seal(r, 5, mixed(12, 1), mixed(6, 1), f)
				if e != api.OK || !bytes.Equal(b, want) {
					t.Errorf("%x %d", b, e)
				}
				if x, e := token.Open(r, mixed(6, 1), b, 9); e != api.OK || !token.Same(x, f) {
					t.Errorf("%x %d", x, e)
				}
				if _, e := token.Open(r, mixed(6, 2), b, 9); e != api.ErrTag {
					t.Error(e)
				}
			}
		})
	}
	all.Wait()
	if n := (asks{t}).failed(r, 5); n != 160 {
		t.Error(n)
	}
}
