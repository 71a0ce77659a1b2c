package mode_test

import (
	"bytes"
	goaes "crypto/aes"
	"encoding/hex"
	"math"
	"slices"
	"sync"
	"testing"

	"crossway/aes"
	"crossway/api"
	"crossway/feist"
	"crossway/mode"
)

const key = "8f95f09245765f80256934e50c66207f"

// beyond are numbers that are too great or too small for each field; some would be right if only their low bytes counted, or if a sum wrapped around.
var beyond = []int{math.MinInt, math.MinInt + 1, math.MinInt + 8, math.MinInt32, -65528, -256, -255, -252, -248, -4, -1, 256, 257, 258, 260, 264, 512, 65536, 65544, 1 << 32, 1<<32 + 1, 1<<32 + 8, math.MaxInt32, math.MaxInt - 8, math.MaxInt - 1, math.MaxInt}

func raw(t *testing.T, s string) []byte {
	t.Helper()
	b, err := hex.DecodeString(s)
	if err != nil {
		t.Fatal(s, err)
	}
	return b
}

// mixed are n bytes without a pattern; others for another seed.
func mixed(n int, seed uint64) []byte {
	b := make([]byte, n)
	for i := range b {
		seed = seed*6364136223846793005 + 1442695040888963407
		b[i] = byte(seed >> 40)
	}
	return b
}

// spoil writes over a slice, its spare capacity too. It counts up, so that a second time doesn't undo the first.
func spoil(b []byte) {
	b = b[:cap(b)]
	for i := range b {
		b[i]++
	}
}

func block(b []byte) [16]byte { return [16]byte(b) }

// right says in the chapter's words whether a configuration is valid.
func right(c mode.Config) bool {
	sids := c.Sid >= 1 && c.Sid <= 15
	nonces := c.Nonce >= 4 && c.Nonce <= 18
	if !sids || !nonces || c.Sid+c.Nonce > 19 {
		return false
	}
	switch c.Mode {
	case 0:
		return bytes.Equal(c.Key[:], make([]byte, 16))
	case 1:
		return c.Sid+c.Nonce == 16
	case 2:
		return true
	}
	return false
}

// valid are all valid configurations, those with a key with several.
func valid() []mode.Config {
	var list []mode.Config
	for m := range 3 {
		for sid := range 16 {
			for nonce := range 19 {
				for _, k := range [][]byte{make([]byte, 16), mixed(16, uint64(100*sid+nonce)), bytes.Repeat([]byte{0xff}, 16)} {
					if c := (mode.Config{Mode: m, Sid: sid, Nonce: nonce, Key: block(k)}); right(c) {
						list = append(list, c)
					}
				}
			}
		}
	}
	return list
}

// invalid are configurations that break one of the chapter's words each, or more.
func invalid(t *testing.T) []mode.Config {
	t.Helper()
	k := block(raw(t, key))
	list := []mode.Config{
		{}, {Key: k}, {Sid: 3, Nonce: 4, Key: k}, {Sid: 8, Nonce: 8, Key: k}, {Sid: 0, Nonce: 4}, {Sid: 0, Nonce: 18}, {Sid: 1, Nonce: 3}, {Sid: 15, Nonce: 3}, {Sid: 1, Nonce: 19}, {Sid: 2, Nonce: 18}, {Sid: 15, Nonce: 5}, {Sid: 16, Nonce: 3}, {Sid: 16, Nonce: 4}, {Sid: 19, Nonce: 0}, {Sid: 0, Nonce: 19}, {Sid: -1, Nonce: 18},
		{Mode: 1, Sid: 8, Nonce: 7, Key: k}, {Mode: 1, Sid: 8, Nonce: 9, Key: k}, {Mode: 1, Sid: 3, Nonce: 4, Key: k}, {Mode: 1, Sid: 15, Nonce: 4, Key: k}, {Mode: 1, Sid: 0, Nonce: 16, Key: k}, {Mode: 1, Sid: 16, Nonce: 0, Key: k}, {Mode: 1, Sid: 13, Nonce: 3, Key: k}, {Mode: 1, Sid: -2, Nonce: 18, Key: k},
		{Mode: 2, Sid: 0, Nonce: 4, Key: k}, {Mode: 2, Sid: 16, Nonce: 3, Key: k}, {Mode: 2, Sid: 1, Nonce: 19, Key: k}, {Mode: 2, Sid: 10, Nonce: 10, Key: k}, {Mode: 2, Sid: 9, Nonce: 3, Key: k},
		{Mode: 3, Sid: 8, Nonce: 8, Key: k}, {Mode: -1, Sid: 8, Nonce: 8, Key: k}, {Mode: 3, Sid: 8, Nonce: 8}, {Mode: -1, Sid: 8, Nonce: 8}, {Mode: 255, Sid: 8, Nonce: 8, Key: k},
	}
	for _, n := range beyond {
		for m := range 3 {
			list = append(list, mode.Config{Mode: m, Sid: n, Nonce: 8}, mode.Config{Mode: m, Sid: 8, Nonce: n}, mode.Config{Mode: m, Sid: n, Nonce: n}, mode.Config{Mode: m, Sid: n, Nonce: 16 - n}, mode.Config{Mode: m, Sid: 16 - n, Nonce: n})
		}
		list = append(list, mode.Config{Mode: n, Sid: 8, Nonce: 8}, mode.Config{Mode: n, Sid: 8, Nonce: 8, Key: k})
	}
	return list
}

// asks are the calls of one test.
type asks struct{ *testing.T }

// described asks whether Right, Size, Bytes and Read tell of a configuration what the chapter's words do.
func (a asks) described(c mode.Config) {
	a.Helper()
	ok := right(c)
	if c.Right() != ok {
		a.Fatalf("%+v: %v", c, !ok)
	}
	size, want := 0, []byte{}
	if ok {
		size, want = 1+c.Sid+c.Nonce, append([]byte{byte(c.Mode), byte(c.Sid), byte(c.Nonce), 0}, c.Key[:]...)
	}
	if n := c.Size(); n != size {
		a.Fatalf("%+v: %d, not %d", c, n, size)
	}
	if b := c.Bytes(); !bytes.Equal(b, want) {
		a.Fatalf("%+v: %x, not %x", c, b, want)
	}
	if ok {
		a.reads(want, c)
	}
}

// reads asks whether Read gives a configuration.
func (a asks) reads(b []byte, want mode.Config) {
	a.Helper()
	if c, e := mode.Read(b); c != want || e != api.OK {
		a.Fatalf("%x: %+v %d, not %+v", b, c, e, want)
	}
}

// noRead asks whether Read refuses bytes with this error.
func (a asks) noRead(b []byte, want api.Errno) {
	a.Helper()
	if c, e := mode.Read(b); c != (mode.Config{}) || e != want {
		a.Fatalf("%x: %+v %d, not %d", b, c, e, want)
	}
}

// turns asks whether Turn makes one text the other, and Back takes it back; and Turn takes back what Back makes.
func (a asks) turns(c mode.Config, text, want []byte) {
	a.Helper()
	if b, e := c.Turn(text); !bytes.Equal(b, want) || e != api.OK {
		a.Fatalf("%+v, %x: %x %d, not %x", c, text, b, e, want)
	}
	if b, e := c.Back(want); !bytes.Equal(b, text) || e != api.OK {
		a.Fatalf("%+v, %x: %x %d, not %x", c, want, b, e, text)
	}
	back, e := c.Back(text)
	if e != api.OK {
		a.Fatalf("%+v, %x: %d", c, text, e)
	}
	if b, e := c.Turn(back); !bytes.Equal(b, text) || e != api.OK {
		a.Fatalf("%+v, %x: %x %d, not %x", c, back, b, e, text)
	}
}

// noTurn asks whether Turn and Back refuse a text with this error.
func (a asks) noTurn(c mode.Config, text []byte, want api.Errno) {
	a.Helper()
	if b, e := c.Turn(text); len(b) != 0 || e != want {
		a.Fatalf("%+v, %x: %x %d, not %d", c, text, b, e, want)
	}
	if b, e := c.Back(text); len(b) != 0 || e != want {
		a.Fatalf("%+v, %x: %x %d, not %d", c, text, b, e, want)
	}
}

// P16.1: the modes' numbers, and the fields of a configuration, which can be compared.
func TestModes(t *testing.T) {
	if mode.MPlain != 0 || mode.MBlock != 1 || mode.MFour != 2 {
		t.Error(mode.MPlain, mode.MBlock, mode.MFour)
	}
	c := mode.Config{Mode: mode.MFour, Sid: 3, Nonce: 4, Key: [16]byte{1, 2}}
	fields := struct {
		Mode, Sid, Nonce int
		Key              [16]byte
	}(c) // this holds for these fields alone
	if fields.Mode != 2 || fields.Sid != 3 || fields.Nonce != 4 || fields.Key != [16]byte{1, 2} {
		t.Error(fields)
	}
	found := map[mode.Config]int{c: 7}
	if found[mode.Config{Mode: 2, Sid: 3, Nonce: 4, Key: [16]byte{1, 2}}] != 7 || found[mode.Config{Mode: 2, Sid: 3, Nonce: 4}] != 0 {
		t.Error(found)
	}
}

// P16.1, P16.2: the chapter's example.
func TestExample(t *testing.T) {
	c := mode.Config{Mode: 0, Sid: 3, Nonce: 4}
	if !c.Right() || c.Size() != 8 {
		t.Error(c.Right(), c.Size())
	}
	text := []byte{1, 2, 3, 4, 5, 6, 7}
	asks{t}.turns(c, text, text)
}

// P16.1: configurations at each edge, by hand.
func TestRightByHand(t *testing.T) {
	k := block(raw(t, key))
	for _, x := range []struct {
		c    mode.Config
		size int
	}{
		{mode.Config{Sid: 1, Nonce: 4}, 6}, {mode.Config{Sid: 1, Nonce: 18}, 20}, {mode.Config{Sid: 2, Nonce: 17}, 20}, {mode.Config{Sid: 15, Nonce: 4}, 20}, {mode.Config{Sid: 8, Nonce: 8}, 17},
		{mode.Config{Mode: 1, Sid: 1, Nonce: 15, Key: k}, 17}, {mode.Config{Mode: 1, Sid: 8, Nonce: 8, Key: k}, 17}, {mode.Config{Mode: 1, Sid: 12, Nonce: 4, Key: k}, 17}, {mode.Config{Mode: 1, Sid: 8, Nonce: 8}, 17},
		{mode.Config{Mode: 2, Sid: 1, Nonce: 4, Key: k}, 6}, {mode.Config{Mode: 2, Sid: 1, Nonce: 18, Key: k}, 20}, {mode.Config{Mode: 2, Sid: 15, Nonce: 4, Key: k}, 20}, {mode.Config{Mode: 2, Sid: 8, Nonce: 8, Key: k}, 17}, {mode.Config{Mode: 2, Sid: 3, Nonce: 4}, 8},
	} {
		if !x.c.Right() || x.c.Size() != x.size {
			t.Errorf("%+v: %v %d, not %d", x.c, x.c.Right(), x.c.Size(), x.size)
		}
		asks{t}.described(x.c)
	}
	for _, c := range invalid(t) {
		if c.Right() || c.Size() != 0 || len(c.Bytes()) != 0 {
			t.Errorf("%+v: %v %d %x", c, c.Right(), c.Size(), c.Bytes())
		}
	}
}

// P16.1: all numbers about the edges together, against the chapter's words.
func TestRight(t *testing.T) {
	some := slices.Clone(beyond)
	for n := -3; n <= 40; n++ {
		some = append(some, n)
	}
	for _, m := range []int{math.MinInt, -256, -3, -2, -1, 0, 1, 2, 3, 4, 5, 255, 256, 257, 258, math.MaxInt} {
		for _, sid := range some {
			for _, nonce := range some {
				for _, k := range [][16]byte{{}, {15: 1}} {
					asks{t}.described(mode.Config{Mode: m, Sid: sid, Nonce: nonce, Key: k})
				}
			}
		}
	}
}

// P16.1: a key of MPlain is zero in each bit; the other modes take any key.
func TestEveryBitOfKeys(t *testing.T) {
	for i := range 16 {
		for bit := range 8 {
			var k [16]byte
			k[i] = 1 << bit
			for m := range 3 {
				c := mode.Config{Mode: m, Sid: 8, Nonce: 8, Key: k}
				if c.Right() != (m > 0) {
					t.Errorf("%+v: %v", c, c.Right())
				}
				asks{t}.described(c)
			}
		}
	}
}

// P16.1: the bytes of a configuration, by hand.
func TestBytesByHand(t *testing.T) {
	c := mode.Config{Mode: mode.MFour, Sid: 3, Nonce: 4, Key: block(raw(t, key))}
	want := raw(t, "02030400"+key)
	if b := c.Bytes(); !bytes.Equal(b, want) {
		t.Errorf("%x", b)
	}
	asks{t}.reads(want, c)
	asks{t}.reads(raw(t, "01080800"+key), mode.Config{Mode: mode.MBlock, Sid: 8, Nonce: 8, Key: block(raw(t, key))})
	asks{t}.reads(raw(t, "000f0400"+"00000000000000000000000000000000"), mode.Config{Mode: mode.MPlain, Sid: 15, Nonce: 4})
}

// P16.1: Read reads what Bytes makes of all valid configurations, and refuses each of them when it is cut or has more bytes.
func TestReadLengths(t *testing.T) {
	a := asks{t}
	for _, c := range valid() {
		a.described(c)
		b := c.Bytes()
		for n := range b {
			a.noRead(b[:n], api.ErrEnd) // what lies behind the length does not count
		}
		a.noRead(append(slices.Clone(b), 0), api.ErrForm)
		a.noRead(append(slices.Clone(b), 1), api.ErrForm)
		a.noRead(slices.Concat(b, b), api.ErrForm)
	}
	a.noRead(nil, api.ErrEnd)
	a.noRead([]byte{}, api.ErrEnd)
	for _, first := range []byte{0, 1, 2, 3, 255} { // bytes that no configuration has: the length counts first
		for n := range 100 {
			b := bytes.Repeat([]byte{first}, n)
			if n < 20 {
				a.noRead(b, api.ErrEnd)
			} else {
				a.noRead(b, api.ErrForm)
			}
		}
	}
	a.noRead(make([]byte, 276), api.ErrForm)
	a.noRead(make([]byte, 1<<20), api.ErrForm)
}

// P16.1: each byte of encodings with each value, against the chapter's words.
func TestReadEveryByte(t *testing.T) {
	a := asks{t}
	for _, digits := range []string{"02030400" + key, "01080800" + key, "01010f00" + key, "02011200" + key, "020f0400" + key, "00080800" + "00000000000000000000000000000000", "01080800" + "00000000000000000000000000000000"} {
		for i := range 20 {
			for x := range 256 {
				b := raw(t, digits)
				b[i] = byte(x)
				c := mode.Config{Mode: int(b[0]), Sid: int(b[1]), Nonce: int(b[2]), Key: block(b[4:])}
				if b[3] != 0 || !right(c) {
					a.noRead(b, api.ErrForm)
				} else {
					a.reads(b, c)
				}
			}
		}
	}
}

// P16.1: each mode, and each pair of lengths, as bytes.
func TestReadEveryPair(t *testing.T) {
	a := asks{t}
	for m := range 4 {
		for sid := range 256 {
			for nonce := range 256 {
				b := make([]byte, 20)
				b[0], b[1], b[2] = byte(m), byte(sid), byte(nonce)
				if c := (mode.Config{Mode: m, Sid: sid, Nonce: nonce}); right(c) {
					a.reads(b, c)
				} else {
					a.noRead(b, api.ErrForm)
				}
			}
		}
	}
}

// P16.2: server numbers and nonces of the examples of the draft of QUIC-LB, and the ids' bytes behind their first one.
func TestSamples(t *testing.T) {
	for _, x := range []struct {
		mode             int
		key              string
		sid, nonce, turn string
	}{
		{mode.MFour, "fdf726a9893ec05c0632d3956680baf0", "31441a", "9c69c275", "67947d29be054a"},
		{mode.MFour, key, "ed793a", "ee080dbf", "20b1d07b359d3c"},
		{mode.MFour, key, "ed793a51d49b8f5fab65", "ee080dbf48", "cc381bc74cb4fbad2823a3d1f8fed2"},
		{mode.MBlock, key, "ed793a51d49b8f5f", "ee080dbf48c0d1e5", "4dd2d05a7b0de9b2b9907afb5ecf8cc3"},
		{mode.MFour, key, "ed793a51d49b8f5fab", "ee080dbf48c0d1e55d", "5779c9cc86beb3a3a4a3ca96fce4bfe0cdbc"},
		{mode.MPlain, "00000000000000000000000000000000", "ed793a", "ee080dbf", "ed793aee080dbf"},
	} {
		c := mode.Config{Mode: x.mode, Sid: len(x.sid) / 2, Nonce: len(x.nonce) / 2, Key: block(raw(t, x.key))}
		asks{t}.turns(c, raw(t, x.sid+x.nonce), raw(t, x.turn))
	}
}

// P16.2: texts of all valid configurations, against the chapter's words: as they are, by Go's own cipher, by layer 15.
func TestTurn(t *testing.T) {
	a := asks{t}
	for i, c := range valid() {
		n := c.Sid + c.Nonce
		for _, text := range [][]byte{mixed(n, uint64(i)), make([]byte, n), bytes.Repeat([]byte{0xff}, n)} {
			a.turns(c, text, turned(t, c, text))
		}
	}
}

// turned is a text as a configuration encrypts it, in the chapter's words.
func turned(t *testing.T, c mode.Config, text []byte) []byte {
	t.Helper()
	switch c.Mode {
	case mode.MBlock:
		other, err := goaes.NewCipher(c.Key[:])
		if err != nil {
			t.Fatal(err)
		}
		b := make([]byte, 16)
		other.Encrypt(b, text)
		return b
	case mode.MFour:
		cipher, e := aes.New(c.Key[:])
		if e != api.OK {
			t.Fatal(e)
		}
		b, e := feist.Mix(cipher, text)
		if e != api.OK {
			t.Fatal(e)
		}
		return b
	}
	return slices.Clone(text)
}

// P16.2: each bit of the key counts, and each bit of the text; where the server number ends does not.
func TestEveryBitCounts(t *testing.T) {
	text := mixed(16, 1)
	for _, m := range []int{mode.MBlock, mode.MFour} {
		c := mode.Config{Mode: m, Sid: 8, Nonce: 8, Key: block(raw(t, key))}
		want, _ := c.Turn(text)
		for bit := range 128 {
			other, flipped := c, slices.Clone(text)
			other.Key[bit/8] ^= 1 << (bit % 8)
			flipped[bit/8] ^= 1 << (bit % 8)
			if b, e := other.Turn(text); e != api.OK || bytes.Equal(b, want) {
				t.Error(m, bit, b, e)
			}
			if b, e := c.Turn(flipped); e != api.OK || bytes.Equal(b, want) {
				t.Error(m, bit, b, e)
			}
			if b, e := other.Back(want); e != api.OK || bytes.Equal(b, text) {
				t.Error(m, bit, b, e)
			}
		}
		for sid := 1; sid <= 12; sid++ {
			c.Sid, c.Nonce = sid, 16-sid
			asks{t}.turns(c, text, want)
		}
	}
}

// P16.2: texts of other lengths.
func TestTextsRefused(t *testing.T) {
	a := asks{t}
	for _, c := range valid() {
		both := c.Sid + c.Nonce
		for n := range 48 {
			if n != both {
				a.noTurn(c, mixed(n, 1), api.ErrRange)
			}
		}
		a.noTurn(c, nil, api.ErrRange)
		a.noTurn(c, make([]byte, 256+both), api.ErrRange)
		a.noTurn(c, make([]byte, 65536+both), api.ErrRange)
		a.noTurn(c, make([]byte, both+1)[:both-1], api.ErrRange) // what lies behind the length does not count
	}
	a.noTurn(mode.Config{Sid: 3, Nonce: 4}, make([]byte, 1<<20), api.ErrRange)
}

// P16.2: an invalid configuration turns nothing, whatever the text's length.
func TestInvalidRefused(t *testing.T) {
	a := asks{t}
	for _, c := range invalid(t) {
		a.noTurn(c, nil, api.ErrState)
		a.noTurn(c, []byte{}, api.ErrState)
		for _, n := range []int{1, 5, 7, 8, 15, 16, 17, 19, 20, 256} {
			a.noTurn(c, mixed(n, 1), api.ErrState)
		}
		if both := c.Sid + c.Nonce; both > 0 && both < 1<<16 {
			a.noTurn(c, make([]byte, both), api.ErrState)
		}
	}
}

// P16.2: arguments stay as they are, what lies behind their end too, and so does the configuration.
func TestArgumentsStay(t *testing.T) {
	for _, c := range valid() {
		before := c
		n := c.Sid + c.Nonce
		whole := append(mixed(n, 1), 0xa5, 0xa5, 0xa5, 0xa5)
		want := slices.Clone(whole)
		for _, size := range []int{n - 1, n, n + 1} {
			c.Turn(whole[:size])
			c.Back(whole[:size])
		}
		if !bytes.Equal(whole, want) || c != before {
			t.Errorf("%+v: %x, not %x; %+v", before, whole, want, c)
		}
		whole = append(c.Bytes(), 0xa5, 0xa5, 0xa5, 0xa5)
		want = slices.Clone(whole)
		for _, size := range []int{0, 19, 20, 21} {
			mode.Read(whole[:size])
		}
		if !bytes.Equal(whole, want) || c != before {
			t.Errorf("%+v: %x, not %x; %+v", before, whole, want, c)
		}
	}
}

// P16.1, P16.2: results share no memory: not with an argument, nor with the configuration or an earlier result, to the end of their capacity.
func TestResultsAreNew(t *testing.T) {
	for _, c := range valid() {
		before, text := c, mixed(c.Sid+c.Nonce, 1)
		for name, call := range map[string]func() []byte{
			"Turn":  func() []byte { b, _ := c.Turn(text); return b },
			"Back":  func() []byte { b, _ := c.Back(text); return b },
			"Bytes": func() []byte { return c.Bytes() },
		} {
			kept := slices.Clone(text)
			first := call()
			want := slices.Clone(first)
			again := call()
			spoil(first)
			third := call()
			if !bytes.Equal(again, want) || !bytes.Equal(third, want) || !bytes.Equal(text, kept) || c != before {
				t.Errorf("%s %+v: %x %x, not %x; %x, not %x; %+v", name, before, again, third, want, text, kept, c)
			}
			spoil(text)
			if !bytes.Equal(again, want) {
				t.Errorf("%s %+v: %x, not %x", name, before, again, want)
			}
			copy(text, kept)
		}
		b := c.Bytes()
		read, _ := mode.Read(b)
		spoil(b)
		if read != before {
			t.Errorf("%+v, not %+v", read, before)
		}
	}
}

// P16.1, P16.2: calls of many goroutines do no harm to each other.
func TestAtOnce(t *testing.T) {
	text := mixed(16, 1)
	var all sync.WaitGroup
	for i := range 9 {
		c := mode.Config{Mode: i % 3, Sid: 8, Nonce: 8}
		if c.Mode != mode.MPlain {
			c.Key = block(mixed(16, uint64(i)))
		}
		want := turned(t, c, text)
		all.Go(func() {
			for range 50 {
				if b, e := c.Turn(text); e != api.OK || !bytes.Equal(b, want) {
					t.Errorf("%x %d", b, e)
				}
				if b, e := c.Back(want); e != api.OK || !bytes.Equal(b, text) {
					t.Errorf("%x %d", b, e)
				}
				if d, e := mode.Read(c.Bytes()); e != api.OK || d != c {
					t.Errorf("%+v %d", d, e)
				}
			}
		})
	}
	all.Wait()
}
