package ring_test

import (
	"bytes"
	standard "crypto/aes"
	"crypto/cipher"
	"math"
	"slices"
	"sync"
	"testing"

	"crossway/api"
	"crossway/gcm"
	"crossway/ring"
)

// beyond are numbers that no key may have; some would be one if only their low bits counted.
var beyond = []int{math.MinInt, math.MinInt + 1, math.MinInt32, -65536, -256, -255, -129, -128, -127, -3, -2, -1, 128, 129, 130, 131, 135, 255, 256, 257, 259, 384, 65536, 1 << 32, 1<<32 + 1, 1<<32 + 3, math.MaxInt32, math.MaxInt - 127, math.MaxInt}

// mixed are n bytes without a pattern; others for another seed.
func mixed(n int, seed uint64) []byte {
	b := make([]byte, n)
	for i := range b {
		seed = seed*6364136223846793005 + 1442695040888963407
		b[i] = byte(seed >> 40)
	}
	return b
}

// spoil writes over a slice, its spare capacity too. It counts up, so that a second time doesn't undo the first.
func spoil[N int | byte](s []N) {
	s = s[:cap(s)]
	for i := range s {
		s[i]++
	}
}

// model is a ring in the chapter's words: all that was installed, in order, with what is retired marked.
type model struct{ past []event }

type event struct {
	seq  int
	key  []byte
	gone bool
}

// there are the events whose keys exist.
func (m *model) there() []event {
	return slices.DeleteFunc(slices.Clone(m.past), func(e event) bool { return e.gone })
}

// find gives the place of a number's key in the past, counted from 1; 0 if there is none.
func (m *model) find(seq int) int {
	for i, e := range m.past {
		if e.seq == seq && !e.gone {
			return i + 1
		}
	}
	return 0
}

func (m *model) install(seq int, key []byte) api.Errno {
	switch {
	case seq < 0 || seq > 127 || len(key) != 16:
		return api.ErrRange
	case m.find(seq) > 0:
		return api.ErrThere
	case len(m.there()) == 16:
		return api.ErrFull
	}
	m.past = append(m.past, event{seq: seq, key: slices.Clone(key)})
	return api.OK
}

func (m *model) retire(seq int) api.Errno {
	switch {
	case seq < 0 || seq > 127:
		return api.ErrRange
	case m.find(seq) == 0:
		return api.ErrNone
	}
	m.past[m.find(seq)-1].gone = true
	return api.OK
}

func (m *model) clone() *model { return &model{past: slices.Clone(m.past)} }

// asks are the calls of one test.
type asks struct{ *testing.T }

// installs asks whether Install does as the model does.
func (a asks) installs(r *ring.Ring, m *model, seq int, key []byte) {
	a.Helper()
	want := m.install(seq, key)
	if e := r.Install(seq, key); e != want {
		a.Fatalf("%d %x: %d, not %d", seq, key, e, want)
	}
	a.same(r, m)
}

// retires asks whether Retire does as the model does.
func (a asks) retires(r *ring.Ring, m *model, seq int) {
	a.Helper()
	want := m.retire(seq)
	if e := r.Retire(seq); e != want {
		a.Fatalf("%d: %d, not %d", seq, e, want)
	}
	a.same(r, m)
}

// refused asks whether Install refuses a key with this error, and changes nothing.
func (a asks) refused(r *ring.Ring, m *model, seq int, key []byte, want api.Errno) {
	a.Helper()
	if e := r.Install(seq, key); e != want {
		a.Fatalf("%d %x: %d, not %d", seq, key, e, want)
	}
	a.same(r, m)
}

// same asks whether Seqs, Newest, Key and Box tell what the model does.
func (a asks) same(r *ring.Ring, m *model) {
	a.Helper()
	var seqs []int
	for _, e := range m.there() {
		seqs = append(seqs, e.seq)
		if k, ok := r.Key(e.seq); !ok || !bytes.Equal(k, e.key) {
			a.Fatalf("%d: %x %v, not %x", e.seq, k, ok, e.key)
		}
		if b, ok := r.Box(e.seq); !ok || b == nil {
			a.Fatalf("%d: %p %v", e.seq, b, ok)
		}
	}
	if got := r.Seqs(); !slices.Equal(got, seqs) {
		a.Fatalf("%d, not %d", got, seqs)
	}
	newest := 0
	if len(seqs) > 0 {
		newest = seqs[len(seqs)-1]
	}
	if n, ok := r.Newest(); n != newest || ok != (len(seqs) > 0) {
		a.Fatalf("%d %v, not %d of %d", n, ok, newest, seqs)
	}
	for seq := range 128 {
		if m.find(seq) == 0 {
			a.none(r, seq)
		}
	}
	for _, seq := range beyond {
		a.none(r, seq)
	}
}

// none asks whether a number has no key.
func (a asks) none(r *ring.Ring, seq int) {
	a.Helper()
	if k, ok := r.Key(seq); len(k) != 0 || ok {
		a.Fatalf("%d: %x %v", seq, k, ok)
	}
	if b, ok := r.Box(seq); b != nil || ok {
		a.Fatalf("%d: %p %v", seq, b, ok)
	}
}

// boxes asks whether each number's box seals and opens with the model's key.
func (a asks) boxes(r *ring.Ring, m *model) {
	a.Helper()
	for _, e := range m.there() {
		b, ok := r.Box(e.seq)
		if !ok {
			a.Fatal(e.seq)
		}
		a.box(b, e.key)
	}
}

// box asks whether a box has this key: it seals as Go's own does, and opens what that has sealed.
func (a asks) box(b *gcm.Box, key []byte) {
	a.Helper()
	nonce, text, note := mixed(12, 1), mixed(21, 2), mixed(5, 3)
	c, err := standard.NewCipher(key)
	if err != nil {
		a.Fatal(err)
	}
	own, err := cipher.NewGCM(c)
	if err != nil {
		a.Fatal(err)
	}
	want := own.Seal(nil, nonce, text, note)
	if s, e := b.Seal(nonce, text, note); e != api.OK || !bytes.Equal(s, want) {
		a.Fatalf("%x: %x %d, not %x", key, s, e, want)
	}
	if o, e := b.Open(nonce, want, note); e != api.OK || !bytes.Equal(o, text) {
		a.Fatalf("%x: %x %d, not %x", key, o, e, text)
	}
}

// opened gives the box of a number.
func (a asks) opened(r *ring.Ring, seq int) *gcm.Box {
	a.Helper()
	b, ok := r.Box(seq)
	if !ok || b == nil {
		a.Fatalf("%d: %p %v", seq, b, ok)
	}
	return b
}

// with is a ring with a key of its own for each of these numbers, installed in their order.
func with(t *testing.T, seqs ...int) (*ring.Ring, *model) {
	t.Helper()
	r, m := ring.New(), new(model)
	for _, seq := range seqs {
		asks{t}.installs(r, m, seq, mixed(16, uint64(seq)))
	}
	return r, m
}

// sixteen are as many numbers as a ring may have, not in order.
func sixteen() []int { return []int{3, 127, 0, 64, 1, 126, 17, 8, 99, 2, 33, 100, 7, 120, 31, 32} }

// P19.1, P19.2: a new ring has no keys, and others are not concerned by what happens to it.
func TestNew(t *testing.T) {
	a, r, m := asks{t}, ring.New(), new(model)
	a.same(r, m)
	for seq := range 128 {
		a.retires(r, m, seq)
	}
	other := ring.New()
	for _, seq := range sixteen() {
		a.installs(r, m, seq, mixed(16, 1))
	}
	a.same(other, new(model))
	a.same(ring.New(), new(model))
}

// P19.2: the chapter's example.
func TestExample(t *testing.T) {
	r := ring.New()
	for _, seq := range []int{3, 7, 5} {
		if e := r.Install(seq, mixed(16, uint64(seq))); e != api.OK {
			t.Fatal(seq, e)
		}
	}
	if n, ok := r.Newest(); n != 5 || !ok {
		t.Error(n, ok)
	}
	if e := r.Retire(5); e != api.OK {
		t.Error(e)
	}
	if n, ok := r.Newest(); n != 7 || !ok {
		t.Error(n, ok)
	}
	if seqs := r.Seqs(); !slices.Equal(seqs, []int{3, 7}) {
		t.Error(seqs)
	}
}

// P19.1, P19.2: each number from 0 to 127 may have a key, also 0, which is not the same as no key.
func TestEverySeq(t *testing.T) {
	a := asks{t}
	for seq := range 128 {
		r, m := with(t, seq)
		if n, ok := r.Newest(); n != seq || !ok {
			t.Errorf("%d: %d %v", seq, n, ok)
		}
		a.boxes(r, m)
		a.retires(r, m, seq)
		a.retires(r, m, seq)
		a.installs(r, m, seq, mixed(16, uint64(seq)+500))
		a.boxes(r, m)
	}
}

// P19.1: numbers and keys of a wrong length are refused first, whether the number has a key, or the ring is full, or not; nothing changes.
func TestInstallOutOfRange(t *testing.T) {
	a := asks{t}
	for _, seqs := range [][]int{nil, {3}, {0, 127}, sixteen()[:15], sixteen()} {
		r, m := with(t, seqs...)
		for _, seq := range beyond {
			for _, n := range []int{0, 15, 16, 17} {
				a.refused(r, m, seq, mixed(n, 9), api.ErrRange)
			}
		}
		for _, n := range []int{0, 1, 8, 12, 15, 17, 24, 31, 32, 64, 255, 256, 272, 65536 + 16} {
			for _, seq := range []int{0, 3, 50, 127} {
				a.refused(r, m, seq, mixed(n, 9), api.ErrRange)
			}
		}
		a.refused(r, m, 3, nil, api.ErrRange)
		a.refused(r, m, 50, nil, api.ErrRange)
		a.refused(r, m, 50, mixed(16, 9)[:15], api.ErrRange) // what lies behind the length does not count
		a.refused(r, m, 50, mixed(16, 9)[:0], api.ErrRange)
	}
}

// P19.1: a number that has a key keeps it, even if the new one is the same, and however full the ring is.
func TestInstallThere(t *testing.T) {
	a := asks{t}
	for n := 1; n <= 16; n++ {
		seqs := sixteen()[:n]
		r, m := with(t, seqs...)
		for _, seq := range seqs {
			a.refused(r, m, seq, mixed(16, uint64(seq)), api.ErrThere)
			a.refused(r, m, seq, mixed(16, 999), api.ErrThere)
		}
		a.boxes(r, m)
	}
}

// P19.1: sixteen keys and no more; one may come for each that goes.
func TestInstallFull(t *testing.T) {
	a := asks{t}
	r, m := with(t, sixteen()...)
	a.boxes(r, m)
	for seq := range 128 {
		if m.find(seq) == 0 {
			a.refused(r, m, seq, mixed(16, 9), api.ErrFull)
		}
	}
	for i, seq := range sixteen() {
		a.retires(r, m, seq)
		a.installs(r, m, 40+i, mixed(16, uint64(i)))
		a.refused(r, m, seq, mixed(16, 9), api.ErrFull)
	}
	a.boxes(r, m)
}

// P19.1: what Retire refuses, in the order of its errors, and that it changes nothing.
func TestRetireRefused(t *testing.T) {
	a := asks{t}
	for _, seqs := range [][]int{nil, {3}, {0, 127}, sixteen()} {
		r, m := with(t, seqs...)
		refuse := func(seq int, want api.Errno) {
			if e := r.Retire(seq); e != want {
				t.Errorf("%d of %d: %d, not %d", seq, seqs, e, want)
			}
			a.same(r, m)
		}
		for _, seq := range beyond {
			refuse(seq, api.ErrRange)
		}
		for seq := range 128 {
			if !slices.Contains(seqs, seq) {
				refuse(seq, api.ErrNone)
			}
		}
	}
}

// P19.1, P19.2: each key of a full ring may go, alone, and all in several orders; the others keep their order and their keys.
func TestRetire(t *testing.T) {
	a := asks{t}
	for _, seq := range sixteen() {
		r, m := with(t, sixteen()...)
		a.retires(r, m, seq)
		a.boxes(r, m)
		a.retires(r, m, seq)
	}
	sorted, back := slices.Sorted(slices.Values(sixteen())), sixteen()
	slices.Reverse(back)
	for _, order := range [][]int{sixteen(), sorted, back} {
		r, m := with(t, sixteen()...)
		for _, seq := range order {
			a.retires(r, m, seq)
		}
		if n, ok := r.Newest(); n != 0 || ok {
			t.Error(n, ok)
		}
	}
}

// P19.2: the newest key is neither the one with the greatest number nor the one that was there at last, but the last one that was installed among those that exist.
func TestNewest(t *testing.T) {
	a := asks{t}
	r, m := with(t, 100, 1, 50)
	newest := func(want int) {
		t.Helper()
		if n, ok := r.Newest(); n != want || !ok {
			t.Errorf("%d %v, not %d", n, ok, want)
		}
	}
	newest(50)
	a.refused(r, m, 100, mixed(16, 7), api.ErrThere) // a refused one is not installed
	newest(50)
	a.retires(r, m, 1)
	newest(50)
	a.retires(r, m, 50)
	newest(100)
	a.installs(r, m, 0, mixed(16, 7))
	newest(0)
	a.installs(r, m, 1, mixed(16, 8))
	newest(1)
	a.retires(r, m, 100)
	a.installs(r, m, 100, mixed(16, 100)) // one that returns is the last
	newest(100)
	if seqs := r.Seqs(); !slices.Equal(seqs, []int{0, 1, 100}) {
		t.Error(seqs)
	}
}

// P19.1, P19.2: many operations in a row against the chapter's words, with clones between them.
func TestRows(t *testing.T) {
	a := asks{t}
	for seed := range 30 {
		r, m := ring.New(), new(model)
		for i, b := range mixed(200, uint64(seed)) {
			seq, n := int(b>>2)%24-2, 16 // more numbers than there may be keys, and two that none may have
			if b%4 == 2 && i%5 == 0 {
				n = 15
			}
			switch {
			case b%4 == 3:
				a.retires(r, m, seq)
			case i%9 == 8:
				r, m = r.Clone(), m.clone()
				a.same(r, m)
			default:
				a.installs(r, m, seq, mixed(n, uint64(i)))
			}
		}
		a.boxes(r, m)
	}
}

// P19.2: a number's box has just that number's key: the same key at two numbers opens what the other sealed, another key does not.
func TestBox(t *testing.T) {
	a, r := asks{t}, ring.New()
	one, other := mixed(16, 1), mixed(16, 2)
	for seq, key := range [][]byte{one, other, one} {
		if e := r.Install(seq, key); e != api.OK {
			t.Fatal(seq, e)
		}
	}
	nonce, text, note := mixed(12, 4), []byte("text"), []byte("note")
	s, e := a.opened(r, 0).Seal(nonce, text, note)
	if e != api.OK {
		t.Fatal(e)
	}
	if o, e := a.opened(r, 2).Open(nonce, s, note); e != api.OK || !bytes.Equal(o, text) {
		t.Errorf("%x %d", o, e)
	}
	if o, e := a.opened(r, 1).Open(nonce, s, note); e != api.ErrTag || len(o) != 0 {
		t.Errorf("%x %d", o, e)
	}
	for range 3 {
		a.box(a.opened(r, 0), one)
		a.box(a.opened(r, 1), other)
		a.box(a.opened(r, 2), one)
	}
}

// P19.2: a number that gets another key gets another box; a box that somebody still has keeps its key.
func TestBoxOfAnotherKey(t *testing.T) {
	a := asks{t}
	r, m := with(t, 4, 5, 6)
	kept := a.opened(r, 5)
	a.retires(r, m, 5)
	a.box(kept, mixed(16, 5))
	a.boxes(r, m)
	a.installs(r, m, 5, mixed(16, 777))
	a.box(a.opened(r, 5), mixed(16, 777))
	a.box(kept, mixed(16, 5))
	a.boxes(r, m)
}

// P19.2: a clone has the same state, and neither ring changes the other.
func TestClone(t *testing.T) {
	a := asks{t}
	for _, seqs := range [][]int{nil, {0}, {3, 7, 5}, sixteen()[:15], sixteen()} {
		r, m := with(t, seqs...)
		c, n := r.Clone(), m.clone()
		a.same(c, n)
		a.boxes(c, n)
		for _, seq := range seqs {
			a.retires(c, n, seq)
			a.same(r, m)
			a.installs(c, n, seq, mixed(16, uint64(seq)+300))
			a.same(r, m)
		}
		a.installs(c, n, 55, mixed(16, 55))
		a.installs(r, m, 56, mixed(16, 56))
		a.same(c, n)
		for _, seq := range seqs {
			a.retires(r, m, seq)
			a.same(c, n)
		}
		a.boxes(r, m)
		a.boxes(c, n)
		again := c.Clone()
		a.same(again, n)
		for _, seq := range c.Seqs() {
			c.Retire(seq)
		}
		a.same(again, n)
		a.boxes(again, n)
		a.same(c, new(model))
	}
}

// P19.2: what cannot be opened with a clone's box is not counted by the box of the other ring.
func TestCloneCounts(t *testing.T) {
	a := asks{t}
	r, _ := with(t, 3)
	c := r.Clone()
	if _, e := a.opened(c, 3).Open(make([]byte, 12), make([]byte, 16), nil); e != api.ErrTag {
		t.Error(e)
	}
	if n := a.opened(r, 3).Failed(); n != 0 {
		t.Error(n)
	}
	if _, e := a.opened(r, 3).Open(make([]byte, 12), make([]byte, 20), nil); e != api.ErrTag {
		t.Error(e)
	}
	if n := a.opened(c, 3).Failed(); n > 1 {
		t.Error(n)
	}
}

// P19.2: arguments stay as they are, what lies behind their end too, and are not retained.
func TestArguments(t *testing.T) {
	a, r, m := asks{t}, ring.New(), new(model)
	whole := mixed(40, 5)
	was := slices.Clone(whole)
	for n := range len(whole) + 1 {
		a.installs(r, m, 9, whole[:n])
		a.installs(r, m, -1, whole[:n])
	}
	a.installs(r, m, 10, whole[4:20])
	a.retires(r, m, 10)
	a.installs(r, m, 10, whole[4:20])
	c := r.Clone()
	if !bytes.Equal(whole, was) {
		t.Errorf("%x, not %x", whole, was)
	}
	spoil(whole)
	for _, x := range []*ring.Ring{r, c} {
		a.same(x, m)
		a.boxes(x, m)
	}
}

// P19.2: what Key and Seqs return is new memory, to the end of its capacity.
func TestResultsAreNew(t *testing.T) {
	a := asks{t}
	for _, seqs := range [][]int{nil, {1}, {3, 7, 5}, sixteen()} {
		r, m := with(t, seqs...)
		for _, seq := range seqs {
			first, _ := r.Key(seq)
			again, _ := r.Key(seq)
			spoil(first)
			a.same(r, m)
			if !bytes.Equal(again, mixed(16, uint64(seq))) {
				t.Errorf("%d: %x", seq, again)
			}
			spoil(again)
		}
		first, again := r.Seqs(), r.Seqs()
		spoil(first)
		a.same(r, m)
		if !slices.Equal(again, seqs) {
			t.Errorf("%d, not %d", again, seqs)
		}
		kept := r.Seqs()
		_ = append(kept, 99)
		for _, seq := range seqs {
			r.Retire(seq)
		}
		if !slices.Equal(kept, seqs) {
			t.Errorf("%d, not %d", kept, seqs)
		}
	}
}

// P19.2: many goroutines that only read do no harm to each other.
func TestAtOnce(t *testing.T) {
	r, m := with(t, 3, 7, 5)
	var all sync.WaitGroup
	for range 8 {
		all.Go(func() {
			for range 20 {
				c := r.Clone()
				for _, e := range m.there() {
					for _, x := range []*ring.Ring{r, c} {
						k, ok := x.Key(e.seq)
						b, is := x.Box(e.seq)
						if !ok || !is || !bytes.Equal(k, e.key) {
							t.Errorf("%d: %x %v %v", e.seq, k, ok, is)
							return
						}
						if s, err := b.Seal(mixed(12, 1), nil, nil); err != api.OK || len(s) != 16 {
							t.Errorf("%x %d", s, err)
						}
					}
				}
				if c.Retire(5) != api.OK || !slices.Equal(r.Seqs(), []int{3, 7, 5}) {
					t.Error(r.Seqs())
				}
			}
		})
	}
	all.Wait()
	asks{t}.boxes(r, m)
}
