package mint_test

import (
	"bytes"
	standard "crypto/aes"
	"crypto/cipher"
	"encoding/binary"
	"math"
	"math/big"
	"slices"
	"sync"
	"testing"

	"crossway/api"
	"crossway/initial"
	"crossway/mint"
	"crossway/ring"
	"crossway/stamp"
	"crossway/token"
)

// on and off are plans that are valid; each mode needs a threshold.
var (
	on  = mint.Plan{Mode: mint.SOn, Threshold: 1, Life: 10}
	off = mint.Plan{Mode: mint.SOff, Threshold: 1, Life: 10}
)

// mixed are n bytes without a pattern; others for another seed.
func mixed(n int, seed uint64) []byte {
	b := make([]byte, n)
	for i := range b {
		seed = seed*6364136223846793005 + 1442695040888963407
		b[i] = byte(seed >> 40)
	}
	return b
}

// spoil writes over a slice, its spare capacity too. It counts up, so that a second time doesn't undo the first.
func spoil(b []byte) {
	b = b[:cap(b)]
	for i := range b {
		b[i]++
	}
}

// packet is an Initial with ids of these lengths.
func packet(to, from int, token []byte) initial.Initial {
	p := initial.Initial{Token: token, Rest: mixed(3, 77)}
	p.First, p.Version, p.To, p.From = 0xc1, 1, mixed(to, uint64(to)+200), mixed(from, uint64(from)+300)
	return p
}

// key is the key that a number has in the rings of these tests.
func key(seq int) []byte { return mixed(16, uint64(seq)+1000) }

// own is Go's own GCM.
func own(key []byte) cipher.AEAD {
	c, err := standard.NewCipher(key)
	if err != nil {
		panic(err)
	}
	g, err := cipher.NewGCM(c)
	if err != nil {
		panic(err)
	}
	return g
}

// sealed is a token around any text.
func sealed(seq int, key, nonce, client, text []byte) []byte {
	first := []byte{byte(seq)}
	return slices.Concat(first, nonce, own(key).Seal(nil, nonce, text, slices.Concat(first, client)))
}

// short are an id's bytes behind their length.
func short(id []byte) []byte { return slices.Concat([]byte{byte(len(id))}, id) }

// laid are the fields of a token, encoded.
func laid(expiry uint64, odcid, scid []byte) []byte {
	return slices.Concat(binary.BigEndian.AppendUint64(nil, expiry), short(odcid), short(scid))
}

// retried is a Retry, byte by byte, with RFC 9001's key and nonce for its stamp.
func retried(to, from, id, token []byte) []byte {
	ahead := slices.Concat([]byte{0xff, 0, 0, 0, 1}, short(to), short(from), token)
	k := []byte{0xbe, 0x0c, 0x69, 0x0b, 0x9f, 0x66, 0x57, 0x5a, 0x1d, 0x76, 0x6b, 0x54, 0xe3, 0x68, 0xc8, 0x4e}
	nonce := []byte{0x46, 0x15, 0x99, 0xd3, 0x5d, 0x63, 0x2b, 0xf2, 0x23, 0x98, 0x25, 0xbb}
	return own(k).Seal(ahead, nonce, nil, slices.Concat(short(id), ahead))
}

// late is the sum of a time and a life, counted without bounds and then bounded.
func late(now, life uint64) uint64 {
	sum := new(big.Int).Add(new(big.Int).SetUint64(now), new(big.Int).SetUint64(life))
	if !sum.IsUint64() {
		return math.MaxUint64
	}
	return sum.Uint64()
}

type numbered struct {
	seq int
	key []byte
}

// model is a mint in the chapter's words, with the keys in the order in which they were installed.
type model struct {
	plan                     mint.Plan
	current, last            int
	keys                     []numbered
	forwarded, made, dropped int
}

func (m *model) active() bool {
	switch m.plan.Mode {
	case 2:
		return true
	case 1:
		return m.current >= m.plan.Threshold || m.last >= m.plan.Threshold
	}
	return false
}

func (m *model) tick() { m.last, m.current = m.current, 0 }

// clone is the same, with counts that begin at 0.
func (m *model) clone() *model {
	return &model{plan: m.plan, current: m.current, last: m.last, keys: slices.Clone(m.keys)}
}

func (m *model) find(seq int) int {
	return slices.IndexFunc(m.keys, func(k numbered) bool { return k.seq == seq })
}

// open is the error of a token.
func (m *model) open(client, t []byte, now uint64) api.Errno {
	if len(t) < 29 {
		return api.ErrEnd
	}
	at := m.find(int(t[0]))
	if at < 0 {
		return api.ErrNone
	}
	text, err := own(m.keys[at].key).Open(nil, t[1:13], t[13:], slices.Concat(t[:1], client))
	if err != nil || len(client) > 64 || len(t) > 4096 {
		return api.ErrTag
	}
	f, e := token.Untext(text)
	if e == api.OK && f.Expiry < now {
		return api.ErrOld
	}
	return e
}

// retry is what the section about making a Retry says.
func (m *model) retry(client []byte, p initial.Initial, now uint64, random []byte) mint.Outcome {
	lost := func(e api.Errno) mint.Outcome { return mint.Outcome{Kind: 2, Err: e} }
	switch {
	case len(m.keys) == 0:
		return lost(api.ErrNone)
	case len(random) < 20:
		return lost(api.ErrDraw)
	case len(client) > 64:
		return lost(api.ErrRange)
	case len(p.To) > 20 || len(p.From) > 20:
		return lost(api.ErrLong)
	}
	newest := m.keys[len(m.keys)-1]
	scid := slices.Concat([]byte{0xc8}, random[:8])
	t := sealed(newest.seq, newest.key, random[8:20], client, laid(late(now, m.plan.Life), p.To, scid))
	return mint.Outcome{Kind: 1, Bytes: retried(p.From, scid, p.To, t), Used: 20}
}

// rule is the first rule that applies.
func (m *model) rule(client []byte, p initial.Initial, now uint64, random []byte) mint.Outcome {
	if len(p.Token) == 0 || p.Token[0] >= 128 {
		if m.active() {
			return m.retry(client, p, now, random)
		}
		return mint.Outcome{Kind: 0}
	}
	if !m.active() && m.plan.Shared {
		return mint.Outcome{Kind: 0}
	}
	e := m.open(client, p.Token, now)
	if e == api.OK {
		return mint.Outcome{Kind: 0, Checked: true}
	}
	if !m.active() || e == api.ErrTag {
		return mint.Outcome{Kind: 2, Err: e}
	}
	return m.retry(client, p, now, random)
}

func (m *model) take(client []byte, p initial.Initial, now uint64, random []byte) mint.Outcome {
	m.current++
	o := m.rule(client, p, now, random)
	for kind, n := range []*int{&m.forwarded, &m.made, &m.dropped} {
		if kind == o.Kind {
			*n++
		}
	}
	return o
}

func equal(a, b mint.Outcome) bool {
	return a.Kind == b.Kind && a.Checked == b.Checked && a.Err == b.Err && bytes.Equal(a.Bytes, b.Bytes) && a.Used == b.Used
}

// asks are the calls of one test, of a mint and its model.
type asks struct {
	*testing.T
	*mint.Mint
	model *model
}

// with is a mint of a plan, with the keys of these numbers.
func with(t *testing.T, p mint.Plan, seqs ...int) asks {
	t.Helper()
	m, e := mint.New(p)
	if m == nil || e != api.OK {
		t.Fatalf("%+v: %p %d", p, m, e)
	}
	a := asks{t, m, &model{plan: p}}
	a.same()
	for _, seq := range seqs {
		a.installs(seq, key(seq))
	}
	return a
}

// same asks whether all that a mint tells is what the model says.
func (a asks) same() {
	a.Helper()
	if p := a.Plan(); p != a.model.plan {
		a.Fatalf("%+v, not %+v", p, a.model.plan)
	}
	if now, last := a.Seen(); now != a.model.current || last != a.model.last {
		a.Fatalf("%d %d, not %d %d", now, last, a.model.current, a.model.last)
	}
	if got := a.Active(); got != a.model.active() {
		a.Fatalf("%+v: %v", a.model, got)
	}
	if f, m, d := a.Counts(); f != a.model.forwarded || m != a.model.made || d != a.model.dropped {
		a.Fatalf("%d %d %d, not %d %d %d", f, m, d, a.model.forwarded, a.model.made, a.model.dropped)
	}
	seqs := a.Ring().Seqs()
	if len(seqs) != len(a.model.keys) {
		a.Fatalf("%d, not %d", seqs, a.model.keys)
	}
	for i, k := range a.model.keys {
		if got, ok := a.Ring().Key(k.seq); seqs[i] != k.seq || !ok || !bytes.Equal(got, k.key) {
			a.Fatalf("%d: %x, not %x", seqs, got, a.model.keys)
		}
	}
}

func (a asks) installs(seq int, key []byte) {
	a.Helper()
	if e := a.Ring().Install(seq, key); e != api.OK {
		a.Fatal(seq, e)
	}
	a.model.keys = append(a.model.keys, numbered{seq, key})
	a.same()
}

func (a asks) retires(seq int) {
	a.Helper()
	if e := a.Ring().Retire(seq); e != api.OK {
		a.Fatal(seq, e)
	}
	at := a.model.find(seq)
	a.model.keys = slices.Delete(slices.Clone(a.model.keys), at, at+1)
	a.same()
}

// sets asks whether a valid plan replaces the one before.
func (a asks) sets(p mint.Plan) {
	a.Helper()
	if e := a.Set(p); e != api.OK {
		a.Fatalf("%+v: %d", p, e)
	}
	a.model.plan = p
	a.same()
}

func (a asks) ticks() {
	a.Helper()
	a.Tick()
	a.model.tick()
	a.same()
}

// takes asks whether an Initial's outcome is the model's, and gives it.
func (a asks) takes(client []byte, p initial.Initial, now uint64, random []byte) mint.Outcome {
	a.Helper()
	want := a.model.take(client, p, now, random)
	o := a.Take(client, p, now, random)
	if !equal(o, want) {
		a.Fatalf("%x, %x, %d, %x: %+v, not %+v", client, p, now, random, o, want)
	}
	a.same()
	return o
}

// forwards asks whether an Initial is forwarded.
func (a asks) forwards(client []byte, p initial.Initial, now uint64, checked bool) {
	a.Helper()
	if o := a.takes(client, p, now, nil); !equal(o, mint.Outcome{Kind: mint.OForward, Checked: checked}) {
		a.Fatalf("%x: %+v", p, o)
	}
}

// drops asks whether an Initial is dropped with this error.
func (a asks) drops(client []byte, p initial.Initial, now uint64, random []byte, err api.Errno) {
	a.Helper()
	if o := a.takes(client, p, now, random); !equal(o, mint.Outcome{Kind: mint.ODrop, Err: err}) {
		a.Fatalf("%x: %+v, not %d", p, o, err)
	}
}

// makes gives the token of the Retry that answers an Initial, and its source id.
func (a asks) makes(client []byte, p initial.Initial, now uint64, random []byte) (t, scid []byte) {
	a.Helper()
	o := a.takes(client, p, now, random)
	if o.Kind != mint.OMade || o.Used != 20 || o.Err != api.OK || o.Checked {
		a.Fatalf("%x: %+v", p, o)
	}
	r, e := stamp.Parse(o.Bytes)
	if e != api.OK || !bytes.Equal(r.To, p.From) {
		a.Fatalf("%x: %x %d", p, o.Bytes, e)
	}
	if e := stamp.Check(o.Bytes, p.To); e != api.OK {
		a.Fatalf("%x: %x %d", p, o.Bytes, e)
	}
	return r.Token, r.From
}

// P21.2: the chapter's example.
func TestExample(t *testing.T) {
	a := with(t, on)
	for n := range 5 {
		a.drops(mixed(n, 1), packet(8, n, nil), uint64(n), mixed(20, 2), api.ErrNone)
	}
}

// P21.1: the numbers of the constants, and the fields' zero values.
func TestConstants(t *testing.T) {
	if mint.SOff != 0 || mint.SAuto != 1 || mint.SOn != 2 || mint.OForward != 0 || mint.OMade != 1 || mint.ODrop != 2 {
		t.Error(mint.SOff, mint.SAuto, mint.SOn, mint.OForward, mint.OMade, mint.ODrop)
	}
}

// plans are all plans of these fields; most of them are not valid.
func plans() []mint.Plan {
	var all []mint.Plan
	for _, mode := range []int{math.MinInt, -256, -1, 0, 1, 2, 3, 4, 256, 257, 1 << 32, math.MaxInt} {
		for _, threshold := range []int{math.MinInt, -65536, -1, 0, 1, 2, 100, 65534, 65535, 65536, 65537, 1 << 32, 1<<32 + 1, math.MaxInt} {
			for _, life := range []uint64{0, 1, 1<<40 - 1, 1 << 40, 1<<40 + 1, 1 << 41, 1 << 63, math.MaxUint64} {
				for _, shared := range []bool{false, true} {
					all = append(all, mint.Plan{Mode: mode, Shared: shared, Threshold: threshold, Life: life})
				}
			}
		}
	}
	return all
}

// P21.1: Right, New and Set with plans at the edges of all fields, alone and together.
func TestPlans(t *testing.T) {
	good := 0
	a := with(t, mint.Plan{Mode: mint.SAuto, Shared: true, Threshold: 2, Life: 3}, 5)
	a.takes(nil, packet(1, 1, nil), 0, nil)
	a.ticks()
	a.takes(nil, packet(1, 1, nil), 0, nil)
	for _, p := range plans() {
		valid := p.Mode >= 0 && p.Mode <= 2 && p.Threshold >= 1 && p.Threshold <= 65535 && p.Life <= 1<<40
		if p.Right() != valid {
			t.Fatalf("%+v: %v", p, p.Right())
		}
		if valid {
			good++
			with(t, p)
			a.sets(p)
			continue
		}
		if m, e := mint.New(p); m != nil || e != api.ErrRange {
			t.Fatalf("%+v: %p %d", p, m, e)
		}
		if e := a.Set(p); e != api.ErrRange {
			t.Fatalf("%+v: %d", p, e)
		}
		a.same()
	}
	if good != 3*5*4*2 {
		t.Error(good)
	}
}

// P21.1: a new mint has an empty ring, has seen nothing, and Ring gives the ring itself.
func TestNew(t *testing.T) {
	a := with(t, on)
	if r := a.Ring(); r == nil || r != a.Ring() || len(r.Seqs()) != 0 {
		t.Fatal(r)
	}
	r := a.Ring()
	if e := r.Install(9, key(9)); e != api.OK {
		t.Fatal(e)
	}
	a.model.keys = []numbered{{9, key(9)}}
	a.same()
	a.makes(nil, packet(1, 1, nil), 0, mixed(20, 1))
	a.sets(off)
	if a.Ring() != r {
		t.Error("another ring")
	}
	if b := with(t, on); b.Ring() == r {
		t.Error("shared")
	}
}

// P21.1: active or not, for every mode, by the numbers of both ticks about the threshold.
func TestActive(t *testing.T) {
	for mode := range 3 {
		for _, threshold := range []int{1, 2, 3, 5, 65535} {
			for last := range 7 {
				a := with(t, mint.Plan{Mode: mode, Threshold: threshold})
				for range last {
					a.takes(nil, packet(0, 0, nil), 0, nil)
				}
				a.ticks()
				for current := range 7 {
					want := mode == 2 || mode == 1 && (current >= threshold || last >= threshold)
					if a.Active() != want {
						t.Fatal(mode, threshold, last, current)
					}
					a.takes(nil, packet(0, 0, nil), 0, nil)
				}
			}
		}
	}
}

// P21.1: the greatest threshold is reached by as many Initials.
func TestMany(t *testing.T) {
	m, _ := mint.New(mint.Plan{Mode: mint.SAuto, Threshold: 65535})
	for n := range 65536 {
		if now, _ := m.Seen(); now != n || m.Active() != (n >= 65535) {
			t.Fatal(n, now)
		}
		m.Take(nil, initial.Initial{}, 0, nil)
	}
	m.Tick()
	if now, last := m.Seen(); now != 0 || last != 65536 || !m.Active() {
		t.Fatal(now, last)
	}
	m.Tick()
	if now, last := m.Seen(); now != 0 || last != 0 || m.Active() {
		t.Fatal(now, last)
	}
	if f, made, d := m.Counts(); f != 65534 || made != 0 || d != 2 {
		t.Fatal(f, made, d)
	}
}

// P21.1: another plan changes neither the numbers nor the counts; whether the mint is active hangs on the new one.
func TestSet(t *testing.T) {
	a := with(t, mint.Plan{Mode: mint.SAuto, Threshold: 3})
	for range 2 {
		a.forwards(nil, packet(1, 1, nil), 0, false)
	}
	a.sets(mint.Plan{Mode: mint.SAuto, Threshold: 2})
	if !a.Active() {
		t.Error("not active")
	}
	a.sets(mint.Plan{Mode: mint.SAuto, Threshold: 4})
	a.forwards(nil, packet(1, 1, nil), 0, false)
	a.drops(nil, packet(1, 1, nil), 0, nil, api.ErrNone)
	a.sets(off)
	a.forwards(nil, packet(1, 1, nil), 0, false)
	a.sets(on)
	a.drops(nil, packet(1, 1, nil), 0, nil, api.ErrNone)
}

// P21.2: an Initial counts first, whatever becomes of it, so that the one that reaches the threshold is answered.
func TestThreshold(t *testing.T) {
	a := with(t, mint.Plan{Mode: mint.SAuto, Threshold: 3, Life: 4}, 1)
	p := packet(8, 4, nil)
	a.forwards(nil, p, 0, false)
	a.forwards(nil, p, 0, false)
	tok, _ := a.makes(nil, p, 0, mixed(20, 1))
	a.forwards(nil, packet(8, 4, tok), 0, true)
	a.drops(nil, p, 0, mixed(19, 1), api.ErrDraw)
	a.ticks()
	a.makes(nil, p, 0, mixed(20, 1)) // the last tick had enough
	a.ticks()
	a.forwards(nil, p, 0, false) // 1 and 1
	a.ticks()
	a.drops(nil, packet(8, 4, []byte{1}), 0, nil, api.ErrEnd)
	a.drops(nil, packet(8, 4, []byte{1}), 0, mixed(20, 1), api.ErrEnd)
	a.makes(nil, packet(8, 4, []byte{1}), 0, mixed(20, 1)) // those that were dropped count as well
}

// P21.2: each first byte of a token, in each mode.
func TestFirst(t *testing.T) {
	for first := range 256 {
		for _, n := range []int{1, 28, 29, 80} {
			tok := mixed(n, 6)
			tok[0] = byte(first)
			a := with(t, on, 7)
			switch {
			case first == 7 && n > 28:
				a.drops(nil, packet(1, 2, tok), 0, mixed(20, 3), api.ErrTag)
			default:
				a.makes(nil, packet(1, 2, tok), 0, mixed(20, 3))
			}
			a.sets(off)
			switch {
			case first >= 128:
				a.forwards(nil, packet(1, 2, tok), 0, false)
			case n < 29:
				a.drops(nil, packet(1, 2, tok), 0, mixed(20, 3), api.ErrEnd)
			case first == 7:
				a.drops(nil, packet(1, 2, tok), 0, mixed(20, 3), api.ErrTag)
			default:
				a.drops(nil, packet(1, 2, tok), 0, mixed(20, 3), api.ErrNone)
			}
			a.sets(mint.Plan{Mode: mint.SOff, Shared: true, Threshold: 1})
			a.forwards(nil, packet(1, 2, tok), 0, false)
		}
	}
}

// P21.2: no token, nil or empty, is not opened.
func TestWithout(t *testing.T) {
	for _, tok := range [][]byte{nil, {}} {
		for _, shared := range []bool{false, true} {
			a := with(t, mint.Plan{Mode: mint.SOff, Shared: shared, Threshold: 1}, 0, 127)
			a.forwards(mixed(4, 1), packet(8, 8, tok), 9, false)
			a.sets(mint.Plan{Mode: mint.SOn, Shared: shared, Threshold: 1})
			a.makes(mixed(4, 1), packet(8, 8, tok), 9, mixed(20, 4))
		}
	}
}

// P21.2: a Retry part by part, with ids of every length.
func TestMade(t *testing.T) {
	a := with(t, mint.Plan{Mode: mint.SOn, Threshold: 1, Life: 1000}, 0, 127, 64)
	client, random := mixed(6, 3), mixed(25, 4)
	for to := range 21 {
		for from := range 21 {
			tok, scid := a.makes(client, packet(to, from, nil), 5000, random)
			if !bytes.Equal(scid, slices.Concat([]byte{0xc8}, random[:8])) {
				t.Fatalf("%x", scid)
			}
			if seq, ok := token.Seq(tok); seq != 64 || !ok || !bytes.Equal(tok[1:13], random[8:20]) {
				t.Fatalf("%x", tok)
			}
			want := token.Fields{Expiry: 6000, Odcid: packet(to, from, nil).To, Scid: scid}
			if f, e := token.Open(a.Ring(), client, tok, 0); e != api.OK || !token.Same(f, want) {
				t.Fatalf("%x %d", f, e)
			}
		}
	}
}

// P21.2: the new id and the nonce are the first twenty random bytes; those behind them change nothing.
func TestRandom(t *testing.T) {
	a := with(t, on, 3)
	p := packet(8, 8, nil)
	for n := range 20 {
		a.drops(nil, p, 0, mixed(n, 5), api.ErrDraw)
	}
	want := a.takes(nil, p, 0, mixed(20, 5))
	for _, n := range []int{21, 22, 40, 4096} {
		if o := a.takes(nil, p, 0, mixed(n, 5)); !equal(o, want) {
			t.Fatalf("%d: %x, not %x", n, o.Bytes, want.Bytes)
		}
	}
	for i := range 20 {
		random := mixed(20, 5)
		random[i] ^= 1
		if o := a.takes(nil, p, 0, random); equal(o, want) {
			t.Fatalf("%d has no weight", i)
		}
	}
}

// P21.2: of the Initial, a Retry tells only the ids; the rest of it, and what layer 11 would not parse, change nothing.
func TestOther(t *testing.T) {
	a := with(t, on, 3)
	p := packet(8, 5, nil)
	want := a.takes(nil, p, 0, mixed(20, 5))
	for _, rest := range [][]byte{nil, mixed(1200, 1)} {
		for _, first := range []byte{0, 0x40, 0xc0, 0xff} {
			for _, version := range []uint32{0, 1, 2, math.MaxUint32} {
				p.Rest, p.First, p.Version = rest, first, version
				if o := a.takes(nil, p, 0, mixed(20, 5)); !equal(o, want) {
					t.Fatalf("%x: %+v", p, o)
				}
			}
		}
	}
	zero, _ := mint.New(off)
	if o := zero.Take(nil, initial.Initial{}, 0, nil); !equal(o, mint.Outcome{}) {
		t.Fatalf("%+v", o)
	}
}

// P21.2: the expiry at the edges of the time and of the life.
func TestExpiry(t *testing.T) {
	for _, life := range []uint64{0, 1, 2, 255, 1<<32 - 1, 1<<40 - 1, 1 << 40} {
		a := with(t, mint.Plan{Mode: mint.SOn, Threshold: 1, Life: life}, 2)
		for _, now := range []uint64{0, 1, 1<<32 - 1, 1 << 63, math.MaxUint64 - 1<<40 - 1, math.MaxUint64 - 1<<40, math.MaxUint64 - 1<<40 + 1, math.MaxUint64 - 256, math.MaxUint64 - 255, math.MaxUint64 - 2, math.MaxUint64 - 1, math.MaxUint64} {
			tok, _ := a.makes(nil, packet(8, 8, nil), now, mixed(20, 1))
			f, e := token.Open(a.Ring(), nil, tok, 0)
			if e != api.OK || f.Expiry != late(now, life) || f.Expiry < now {
				t.Fatalf("%d + %d: %d %d", now, life, f.Expiry, e)
			}
		}
	}
}

// P21.2: the errors of a Retry in their order; each one beside those behind it.
func TestOrder(t *testing.T) {
	long, few, enough := make([]byte, 65), mixed(19, 1), mixed(20, 1)
	a := with(t, on)
	a.drops(long, packet(21, 21, nil), 0, few, api.ErrNone)
	a.drops(nil, packet(8, 8, nil), 0, few, api.ErrNone)
	a.drops(nil, packet(8, 8, nil), 0, enough, api.ErrNone)
	a.installs(3, key(3))
	a.drops(long, packet(21, 21, nil), 0, few, api.ErrDraw)
	a.drops(nil, packet(8, 8, nil), 0, nil, api.ErrDraw)
	a.drops(long, packet(21, 21, nil), 0, enough, api.ErrRange)
	a.drops(long, packet(8, 8, nil), 0, enough, api.ErrRange)
	a.drops(mixed(70000, 1), packet(8, 8, nil), 0, enough, api.ErrRange)
	a.drops(mixed(64, 1), packet(21, 8, nil), 0, enough, api.ErrLong)
	a.drops(mixed(64, 1), packet(8, 21, nil), 0, enough, api.ErrLong)
	a.drops(nil, packet(21, 21, nil), 0, enough, api.ErrLong)
	a.drops(nil, packet(255, 0, nil), 0, enough, api.ErrLong)
	a.drops(nil, packet(0, 256, nil), 0, enough, api.ErrLong)
	a.drops(nil, packet(276, 276, nil), 0, enough, api.ErrLong)
	a.makes(mixed(64, 1), packet(20, 20, nil), 0, enough)
	a.makes(nil, packet(0, 0, nil), 0, enough)
	a.sets(off)
	a.forwards(long, packet(21, 21, nil), 0, false)
	a.sets(on)
	a.retires(3)
	a.drops(nil, packet(8, 8, nil), 0, enough, api.ErrNone)
}

// P21.2: ids that are too long don't stop an Initial that is not to be answered.
func TestLongIds(t *testing.T) {
	a := with(t, on, 3)
	tok, _ := a.makes(nil, packet(8, 8, nil), 0, mixed(20, 1))
	a.forwards(nil, packet(21, 300, tok), 0, true)
	a.drops(nil, packet(21, 300, tok), 11, mixed(20, 1), api.ErrLong)
	a.drops(mixed(1, 1), packet(21, 300, tok), 0, mixed(20, 1), api.ErrTag)
}

// faults gives tokens with each error of opening it, with key 3 at the time 100 for this client.
func faults(client []byte) map[api.Errno][][]byte {
	nonce := mixed(12, 9)
	seal := func(text []byte) []byte { return sealed(3, key(3), nonce, client, text) }
	good := seal(laid(100, mixed(8, 1), mixed(9, 2)))
	gone, spoilt := slices.Clone(good), slices.Clone(good)
	gone[0] = 4
	spoilt[20] ^= 128
	return map[api.Errno][][]byte{
		api.OK:      {good, seal(laid(math.MaxUint64, nil, nil)), seal(laid(100, mixed(20, 1), mixed(20, 2)))},
		api.ErrEnd:  {{3}, good[:28], gone[:28], seal(nil), seal(laid(100, nil, nil)[:9]), seal(laid(100, mixed(8, 1), mixed(9, 2))[:26])},
		api.ErrNone: {gone},
		api.ErrTag:  {spoilt, good[:29], good[:len(good)-1], slices.Concat(good, []byte{0}), sealed(3, key(4), nonce, client, laid(100, nil, nil)), seal(make([]byte, 4096)), sealed(3, key(3), nonce, slices.Concat(client, []byte{0}), laid(100, nil, nil))},
		api.ErrForm: {seal(slices.Concat(laid(100, nil, nil), []byte{0})), seal(laid(100, mixed(21, 1), nil)), seal(laid(100, nil, mixed(21, 1)))},
		api.ErrOld:  {seal(laid(99, mixed(8, 1), mixed(9, 2))), seal(laid(0, nil, nil))},
	}
}

// P21.2, P21.3: each error of a token, while the mint is active, while it isn't, and with shared keys.
func TestErrors(t *testing.T) {
	client := mixed(16, 4)
	for err, tokens := range faults(client) {
		for _, tok := range tokens {
			p := packet(8, 8, tok)
			for _, shared := range []bool{false, true} {
				a := with(t, mint.Plan{Mode: mint.SOn, Shared: shared, Threshold: 1}, 3)
				switch err {
				case api.OK:
					a.forwards(client, p, 100, true)
				case api.ErrTag:
					a.drops(client, p, 100, mixed(20, 1), api.ErrTag)
					a.drops(client, p, 100, nil, api.ErrTag)
				default:
					a.makes(client, p, 100, mixed(20, 1))
					a.drops(client, p, 100, nil, api.ErrDraw)
				}
				a.sets(mint.Plan{Mode: mint.SOff, Shared: shared, Threshold: 1})
				switch {
				case shared:
					a.forwards(client, p, 100, false)
				case err == api.OK:
					a.forwards(client, p, 100, true)
				default:
					a.drops(client, p, 100, mixed(20, 1), err)
				}
			}
		}
	}
}

// P21.2: SAuto that is not active does as SOff does, one that is active as SOn.
func TestAuto(t *testing.T) {
	client := mixed(16, 4)
	for _, tokens := range faults(client) {
		for _, tok := range append(tokens, nil, []byte{200}) {
			for _, shared := range []bool{false, true} {
				auto := with(t, mint.Plan{Mode: mint.SAuto, Shared: shared, Threshold: 2, Life: 5}, 3)
				idle := with(t, mint.Plan{Mode: mint.SOff, Shared: shared, Threshold: 2, Life: 5}, 3)
				busy := with(t, mint.Plan{Mode: mint.SOn, Shared: shared, Threshold: 2, Life: 5}, 3)
				for _, as := range []asks{idle, busy} {
					got, want := auto.takes(client, packet(8, 8, tok), 100, mixed(20, 1)), as.takes(client, packet(8, 8, tok), 100, mixed(20, 1))
					if !equal(got, want) {
						t.Fatalf("%x: %+v, not %+v", tok, got, want)
					}
				}
			}
		}
	}
}

// P21.3: a token that was made is accepted from its client up to its expiry, and then answered by another.
func TestAccepted(t *testing.T) {
	for _, now := range []uint64{0, 100, math.MaxUint64 - 10, math.MaxUint64 - 3, math.MaxUint64} {
		for n := range 65 {
			a := with(t, on, 9, 5)
			client := mixed(n, 8)
			tok, _ := a.makes(client, packet(8, 8, nil), now, mixed(20, uint64(n)))
			end := late(now, 10)
			for _, at := range []uint64{0, now / 2, now, end - 1, end} {
				a.forwards(client, packet(9, 0, tok), at, true)
			}
			if end < math.MaxUint64 {
				for _, at := range []uint64{end + 1, math.MaxUint64} {
					again, _ := a.makes(client, packet(9, 0, tok), at, mixed(20, 99))
					a.forwards(client, packet(9, 0, again), at, true)
				}
			}
			a.sets(off)
			a.forwards(client, packet(9, 0, tok), now, true)
		}
	}
}

// P21.3: a token with any bit changed, or of another client, is not accepted while the mint is active.
func TestRefused(t *testing.T) {
	a := with(t, on, 9)
	client := mixed(4, 8)
	tok, _ := a.makes(client, packet(8, 8, nil), 50, mixed(20, 1))
	for i := range tok {
		for bit := range 8 {
			b := slices.Clone(tok)
			b[i] ^= 1 << bit
			if o := a.takes(client, packet(8, 8, b), 50, mixed(20, 2)); o.Kind == mint.OForward || o.Kind == mint.OMade != (i == 0) {
				t.Fatalf("%x: %+v", b, o)
			}
		}
	}
	for n := range tok {
		if o := a.takes(client, packet(8, 8, tok[:n]), 50, mixed(20, 2)); o.Kind == mint.OForward {
			t.Fatalf("%d: %+v", n, o)
		}
	}
	for _, other := range [][]byte{nil, client[:3], slices.Concat(client, []byte{0}), mixed(4, 9), make([]byte, 65)} {
		a.drops(other, packet(8, 8, tok), 50, mixed(20, 2), api.ErrTag)
	}
	a.forwards(client, packet(8, 8, tok), 50, true)
}

// P21.3: a token is accepted as long as its key exists; the newest key seals, the others open.
func TestKeys(t *testing.T) {
	a := with(t, on, 9)
	first, _ := a.makes(nil, packet(8, 8, nil), 0, mixed(20, 1))
	a.installs(4, key(4))
	second, _ := a.makes(nil, packet(8, 8, nil), 0, mixed(20, 2))
	if first[0] != 9 || second[0] != 4 {
		t.Fatalf("%x %x", first, second)
	}
	a.forwards(nil, packet(8, 8, first), 0, true)
	a.forwards(nil, packet(8, 8, second), 0, true)
	a.retires(4)
	third, _ := a.makes(nil, packet(8, 8, second), 0, mixed(20, 3))
	if third[0] != 9 {
		t.Fatalf("%x", third)
	}
	a.forwards(nil, packet(8, 8, first), 0, true)
	a.installs(4, key(5)) // the number again, with another key
	a.drops(nil, packet(8, 8, second), 0, mixed(20, 3), api.ErrTag)
	a.retires(4)
	a.installs(4, key(4))
	a.forwards(nil, packet(8, 8, second), 0, true)
	a.retires(9)
	a.makes(nil, packet(8, 8, first), 0, mixed(20, 4))
	a.retires(4)
	a.drops(nil, packet(8, 8, second), 0, mixed(20, 4), api.ErrNone)
}

// P21.1 to P21.3: rows of calls without a pattern against the chapter's words, and of clones.
func TestAny(t *testing.T) {
	for seed := range uint64(60) {
		dice := mixed(6000, seed+50)
		a := with(t, mint.Plan{Mode: int(seed % 3), Threshold: 1 + int(seed%4), Life: seed % 7}, 1)
		tokens := [][]byte{nil, {}, {200, 1, 2}, {1}, mixed(40, seed)}
		for at := 0; at+10 < len(dice); at += 10 {
			d := dice[at : at+10]
			tokens = a.step(d, tokens)
		}
	}
}

// step does one call, of which the dice say what it is. It gives the tokens that were made, too.
func (a asks) step(d []byte, tokens [][]byte) [][]byte {
	a.Helper()
	seq := int(d[1] % 4)
	switch {
	case d[0] < 16:
		a.sets(mint.Plan{Mode: int(d[1] % 3), Shared: d[2]%2 > 0, Threshold: 1 + int(d[3]%6), Life: uint64(d[4] % 8)})
	case d[0] < 40:
		a.ticks()
	case d[0] < 50 && a.model.find(seq) < 0:
		a.installs(seq, key(int(d[2]%2)*10+seq))
	case d[0] < 60 && a.model.find(seq) >= 0:
		a.retires(seq)
	case d[0] < 62:
		asks{a.T, a.Clone(), a.model.clone()}.same()
	default:
		tok := slices.Clone(tokens[int(d[1])%len(tokens)])
		if d[2] < 20 && len(tok) > 0 {
			tok[int(d[3])%len(tok)]++
		}
		n := 20
		if d[6] < 20 {
			n = int(d[6])
		}
		o := a.takes(mixed(int(d[4]%3), 1), packet(int(d[5]%22), int(d[7]%22), tok), uint64(d[8]%16), mixed(n, uint64(d[9])))
		if r, e := stamp.Parse(o.Bytes); e == api.OK {
			tokens = append(tokens, r.Token)
		}
	}
	return tokens
}

// P21.3: while the mint is active, only checked Initials are forwarded, and each one that is forwarded has a token that opens.
func TestOnlyChecked(t *testing.T) {
	client, forwarded := mixed(4, 1), 0
	for seed := range uint64(2000) {
		a := with(t, mint.Plan{Mode: mint.SAuto + int(seed%2), Threshold: 1, Shared: seed%3 == 0, Life: 5}, 1)
		tok := sealed(1, key(1), mixed(12, seed), client, laid(seed%10, mixed(8, seed), mixed(9, seed)))
		if seed%7 == 0 {
			tok = mixed(int(seed%90), seed)
		}
		o := a.takes(client, packet(8, 8, tok), 5, mixed(20, seed))
		_, e := token.Open(a.Ring(), client, tok, 5)
		if o.Checked != (o.Kind == mint.OForward) || o.Checked != (e == api.OK) {
			t.Fatalf("%x: %+v %d", tok, o, e)
		}
		if o.Checked {
			forwarded++
		}
	}
	if forwarded < 500 {
		t.Error(forwarded)
	}
}

// P21.2: a clone has the plan, the numbers and the keys, but neither the counts nor the ring itself; what changes one doesn't change the other.
func TestClone(t *testing.T) {
	a := with(t, mint.Plan{Mode: mint.SAuto, Shared: true, Threshold: 2, Life: 10}, 9, 5)
	for range 3 {
		a.takes(nil, packet(8, 8, nil), 0, mixed(20, 1))
	}
	a.ticks()
	a.takes(nil, packet(8, 8, nil), 0, mixed(20, 1))
	a.drops(nil, packet(8, 8, nil), 0, nil, api.ErrDraw)
	c := asks{t, a.Clone(), a.model.clone()}
	if f, m, d := c.Counts(); f != 0 || m != 0 || d != 0 || c.Ring() == a.Ring() {
		t.Fatal(f, m, d)
	}
	both := func() {
		t.Helper()
		a.same()
		c.same()
	}
	both()
	tok, _ := a.makes(nil, packet(8, 8, nil), 0, mixed(20, 1))
	both()
	c.forwards(nil, packet(8, 8, tok), 0, true)
	both()
	c.ticks()
	both()
	c.retires(5)
	both()
	c.installs(6, key(6))
	both()
	a.installs(6, key(7))
	both()
	c.sets(off)
	both()
	a.sets(on)
	a.ticks()
	both()
	a.retires(9)
	both()
	a.drops(nil, packet(8, 8, nil), 0, nil, api.ErrDraw)
	c.forwards(nil, packet(8, 8, tok[:0]), 0, false)
	both()
	again := asks{t, c.Clone(), c.model.clone()}
	again.same()
	again.forwards(nil, packet(8, 8, nil), 0, false)
	both()
}

// P21.2: counts of the three kinds, each on its own.
func TestCounts(t *testing.T) {
	a := with(t, on, 1)
	for n := range 12 {
		switch {
		case n%6 < 3:
			a.drops(nil, packet(1, 1, nil), 0, nil, api.ErrDraw)
		case n%6 < 5:
			a.makes(nil, packet(1, 1, nil), 0, mixed(20, 1))
		default:
			a.forwards(nil, packet(1, 1, sealed(1, key(1), mixed(12, 1), nil, laid(9, nil, nil))), 0, true)
		}
		a.ticks()
	}
	if f, m, d := a.Counts(); f != 2 || m != 4 || d != 6 {
		t.Error(f, m, d)
	}
}

// roomy is a copy with spare capacity.
func roomy(b []byte) []byte { return append(make([]byte, 0, len(b)+40), b...) }

// P21.3: arguments stay as they are, the memory behind them too, and none is kept; outcomes are new memory.
func TestMemory(t *testing.T) {
	a := with(t, on, 3)
	first, _ := a.makes(mixed(6, 1), packet(8, 8, nil), 100, mixed(20, 1))
	for _, tok := range [][]byte{nil, first, first[:20], {130, 1}, slices.Concat([]byte{4}, first[1:])} {
		for _, now := range []uint64{100, 200} {
			want := a.takes(mixed(6, 1), packet(20, 20, tok), now, mixed(30, 2))
			client, random, p := roomy(mixed(6, 1)), roomy(mixed(30, 2)), packet(20, 20, roomy(tok))
			p.To, p.From, p.Rest = roomy(p.To), roomy(p.From), roomy(p.Rest)
			args := [][]byte{client, random, p.To, p.From, p.Token, p.Rest}
			var before [][]byte
			for _, b := range args {
				before = append(before, bytes.Clone(b[:cap(b)]))
			}
			o := a.takes(client, p, now, random)
			kept := bytes.Clone(o.Bytes[:cap(o.Bytes)])
			spoil(o.Bytes)
			for i, b := range args {
				if !bytes.Equal(b[:cap(b)], before[i]) {
					t.Fatalf("%d was changed", i)
				}
			}
			o = a.takes(client, p, now, random)
			for _, b := range args {
				spoil(b)
			}
			if !equal(o, want) || !bytes.Equal(o.Bytes, kept[:len(o.Bytes)]) {
				t.Fatalf("%+v, not %+v", o, want)
			}
			if again := a.takes(mixed(6, 1), packet(20, 20, tok), now, mixed(30, 2)); !equal(again, want) {
				t.Fatalf("%+v, not %+v", again, want)
			}
		}
	}
}

// P21.2: mints of their own don't disturb each other at the same time, and counts may be read meanwhile.
func TestAtOnce(t *testing.T) {
	source := with(t, mint.Plan{Mode: mint.SAuto, Threshold: 3, Life: 10}, 3)
	var group, reader sync.WaitGroup
	done := make(chan bool)
	for range 8 {
		a := asks{t, source.Clone(), source.model.clone()}
		group.Go(func() {
			for n := range 60 {
				want := a.model.take(nil, packet(8, n%20, nil), 5, mixed(20, uint64(n)))
				if o := a.Take(nil, packet(8, n%20, nil), 5, mixed(20, uint64(n))); !equal(o, want) {
					t.Errorf("%+v, not %+v", o, want)
				}
			}
		})
		reader.Go(func() {
			for {
				if f, m, d := a.Counts(); f > 2 || f+m+d > 60 {
					t.Errorf("%d %d %d", f, m, d)
				}
				select {
				case <-done:
					return
				default:
				}
			}
		})
	}
	group.Wait()
	close(done)
	reader.Wait()
	source.same()
}

// P21.3: a ring from the mint serves layer 20 as any ring does: what others seal with its keys is accepted.
func TestOtherRing(t *testing.T) {
	a := with(t, on, 3)
	r := ring.New()
	if e := r.Install(3, key(3)); e != api.OK {
		t.Fatal(e)
	}
	tok, e := token.Seal(r, 3, mixed(12, 1), mixed(4, 2), token.Fields{Expiry: 7, Odcid: mixed(3, 1), Scid: mixed(4, 1)})
	if e != api.OK {
		t.Fatal(e)
	}
	a.forwards(mixed(4, 2), packet(8, 8, tok), 7, true)
	a.makes(mixed(4, 2), packet(8, 8, tok), 8, mixed(20, 1))
}
