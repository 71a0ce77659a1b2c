package flow_test

import (
	"bytes"
	"math"
	"slices"
	"sync"
	"testing"

	"crossway/api"
	"crossway/flow"
)

// beyond are numbers that no backend has; some would be one if only their low bits counted.
var beyond = []int{math.MinInt, math.MinInt + 1, math.MinInt + 5, math.MinInt32, -65536, -256, -255, -251, -64, -63, -2, -1, 64, 65, 69, 127, 128, 255, 256, 257, 261, 65536, 1 << 32, 1<<32 + 5, math.MaxInt32, math.MaxInt - 1, math.MaxInt}

// draw gives numbers without a pattern.
type draw uint64

func (d *draw) below(n int) int {
	*d = *d*6364136223846793005 + 1442695040888963407
	return int(*d>>33) % n
}

// key is a flow of its own for each n below 2^32.
func key(n int) flow.Key {
	return flow.Key{From: flow.Addr{Ip: [16]byte{14: byte(n >> 24), 15: byte(n >> 16)}, Port: uint16(n)}, To: flow.Addr{Ip: [16]byte{0: 0x20}, Port: 443}}
}

// spoil writes over a slice, its spare capacity too.
func spoil(b []byte) {
	b = b[:cap(b)]
	for i := range b {
		b[i]++
	}
}

// row is an entry with its key.
type row struct {
	k flow.Key
	e flow.Entry
}

// model is a table in the chapter's words. Each row has a number, which is greater the later the row was used; the rows themselves are in no order.
type model struct {
	most int
	idle uint64
	rows map[flow.Key]flow.Entry
	used map[flow.Key]int
	uses int
}

func newModel(most int, idle uint64) *model {
	return &model{most: most, idle: idle, rows: map[flow.Key]flow.Entry{}, used: map[flow.Key]int{}}
}

func (m *model) clone() *model {
	c := newModel(m.most, m.idle)
	for k, e := range m.rows {
		c.rows[k], c.used[k] = e, m.used[k]
	}
	c.uses = m.uses
	return c
}

// over asks whether a time is at least the idle time after the last use; sums of 65 bits count as they are.
func (m *model) over(e flow.Entry, now uint64) bool {
	end := e.Last + m.idle
	return end >= e.Last && now >= end
}

func (m *model) gone(k flow.Key) {
	delete(m.rows, k)
	delete(m.used, k)
}

func (m *model) use(k flow.Key, e flow.Entry) {
	m.uses++
	m.rows[k], m.used[k] = e, m.uses
}

// list is all rows, the least recently used first.
func (m *model) list() []row {
	var rows []row
	for k, e := range m.rows {
		rows = append(rows, row{k, e})
	}
	slices.SortFunc(rows, func(a, b row) int { return m.used[a.k] - m.used[b.k] })
	return rows
}

func (m *model) sweep(now uint64) int {
	n := 0
	for _, r := range m.list() {
		if m.over(r.e, now) {
			m.gone(r.k)
			n++
		}
	}
	return n
}

func (m *model) forget(backend int) int {
	n := 0
	for _, r := range m.list() {
		if r.e.Backend == backend {
			m.gone(r.k)
			n++
		}
	}
	return n
}

func (m *model) put(k flow.Key, backend int, now uint64) (flow.Key, bool, api.Errno) {
	if backend < 0 || backend > 63 {
		return flow.Key{}, false, api.ErrRange
	}
	if e, ok := m.rows[k]; ok && m.over(e, now) {
		m.gone(k)
	}
	if _, ok := m.rows[k]; ok {
		return flow.Key{}, false, api.ErrThere
	}
	if len(m.rows) == m.most {
		m.sweep(now)
	}
	var evicted flow.Key
	full := len(m.rows) == m.most
	if full {
		evicted = m.list()[0].k
		m.gone(evicted)
	}
	m.use(k, flow.Entry{Backend: backend, Last: now})
	return evicted, full, api.OK
}

func (m *model) get(k flow.Key, now uint64) (int, bool) {
	e, ok := m.rows[k]
	if !ok {
		return 0, false
	}
	if m.over(e, now) {
		m.gone(k)
		return 0, false
	}
	if now > e.Last {
		e.Last = now
	}
	m.use(k, e)
	return e.Backend, true
}

// asks are the calls of one test.
type asks struct{ *testing.T }

// begin is an empty table with its model.
func (a asks) begin(most int, idle uint64) (*flow.Table, *model) {
	a.Helper()
	x, e := flow.New(most, idle)
	if e != api.OK || x == nil {
		a.Fatal(most, idle, e)
	}
	m := newModel(most, idle)
	a.same(x, m)
	return x, m
}

// puts asks whether Put does as the model does.
func (a asks) puts(x *flow.Table, m *model, k flow.Key, backend int, now uint64) api.Errno {
	a.Helper()
	want, full, err := m.put(k, backend, now)
	if evicted, ok, e := x.Put(k, backend, now); evicted != want || ok != full || e != err {
		a.Fatalf("%v %d %d: %v %v %d, not %v %v %d", k, backend, now, evicted, ok, e, want, full, err)
	}
	a.same(x, m)
	return err
}

// gets asks whether Get does as the model does.
func (a asks) gets(x *flow.Table, m *model, k flow.Key, now uint64) bool {
	a.Helper()
	want, is := m.get(k, now)
	if n, ok := x.Get(k, now); n != want || ok != is {
		a.Fatalf("%v %d: %d %v, not %d %v", k, now, n, ok, want, is)
	}
	a.same(x, m)
	return is
}

// sweeps asks whether Sweep does as the model does.
func (a asks) sweeps(x *flow.Table, m *model, now uint64) {
	a.Helper()
	want := m.sweep(now)
	if n := x.Sweep(now); n != want {
		a.Fatalf("%d: %d, not %d", now, n, want)
	}
	a.same(x, m)
}

// forgets asks whether Forget does as the model does.
func (a asks) forgets(x *flow.Table, m *model, backend int) {
	a.Helper()
	want := m.forget(backend)
	if n := x.Forget(backend); n != want {
		a.Fatalf("%d: %d, not %d", backend, n, want)
	}
	a.same(x, m)
}

// same asks whether Len, Most, Of and All tell what the model does.
func (a asks) same(x *flow.Table, m *model) {
	a.Helper()
	want := m.list()
	if x.Len() != len(want) || x.Most() != m.most {
		a.Fatalf("%d of %d, not %d of %d", x.Len(), x.Most(), len(want), m.most)
	}
	if rows := rows(x.All()); !slices.Equal(rows, want) {
		a.Fatalf("%v, not %v", rows, want)
	}
	for _, r := range want {
		if e, ok := x.Of(r.k); e != r.e || !ok {
			a.Fatalf("%v: %v %v, not %v", r.k, e, ok, r.e)
		}
	}
}

// none asks whether the table has no entry with a key.
func (a asks) none(x *flow.Table, k flow.Key) {
	a.Helper()
	if e, ok := x.Of(k); e != (flow.Entry{}) || ok {
		a.Fatalf("%v: %v %v", k, e, ok)
	}
}

// numbers asks whether the table has the entries of these keys, in this order of use.
func (a asks) numbers(x *flow.Table, want ...int) {
	a.Helper()
	var list []flow.Key
	for _, n := range want {
		list = append(list, key(n))
	}
	var keys []flow.Key
	for k := range x.All() {
		keys = append(keys, k)
	}
	if !slices.Equal(keys, list) {
		a.Fatalf("%v, not %v", keys, list)
	}
}

func rows(all func(func(flow.Key, flow.Entry) bool)) []row {
	var rows []row
	for k, e := range all {
		rows = append(rows, row{k, e})
	}
	return rows
}

// P24.1: an address's bytes are its Ip and its Port, each at its place.
func TestAddrBytes(t *testing.T) {
	if b := (flow.Addr{}).Bytes(); !bytes.Equal(b, make([]byte, 18)) {
		t.Errorf("%x", b)
	}
	for i := range 16 {
		for bit := range 8 {
			var a flow.Addr
			a.Ip[i] = 1 << bit
			want := make([]byte, 18)
			want[i] = 1 << bit
			if b := a.Bytes(); !bytes.Equal(b, want) {
				t.Errorf("%v: %x", a, b)
			}
		}
	}
	for port := range 1 << 16 {
		a := flow.Addr{Ip: [16]byte{1, 2, 3, 15: 16}, Port: uint16(port)}
		want := []byte{1, 2, 3, 0, 0, 0, 0, 0, 0, 0, 0, 0, 0, 0, 0, 16, byte(port / 256), byte(port % 256)}
		if b := a.Bytes(); !bytes.Equal(b, want) {
			t.Fatalf("%v: %x", a, b)
		}
	}
}

// P24.1: a flow's bytes are those of From, and then those of To.
func TestKeyBytes(t *testing.T) {
	a := flow.Addr{Ip: [16]byte{0: 0xa0, 15: 0xaf}, Port: 0x0102}
	b := flow.Addr{Ip: [16]byte{0: 0xb0, 15: 0xbf}, Port: 0xfffe}
	for _, k := range []flow.Key{{}, {From: a}, {To: b}, {From: a, To: b}, {From: b, To: a}, {From: a, To: a}} {
		if got, want := k.Bytes(), slices.Concat(k.From.Bytes(), k.To.Bytes()); !bytes.Equal(got, want) || len(got) != 36 {
			t.Errorf("%v: %x, not %x", k, got, want)
		}
	}
	want := append(make([]byte, 0, 36), 0xa0)
	want = append(append(want, make([]byte, 14)...), 0xaf, 1, 2, 0xb0)
	want = append(append(want, make([]byte, 14)...), 0xbf, 0xff, 0xfe)
	if got := (flow.Key{From: a, To: b}).Bytes(); !bytes.Equal(got, want) {
		t.Errorf("%x, not %x", got, want)
	}
}

// P24.1: what Bytes returns is new memory, to the end of its capacity, and the value stays as it is.
func TestBytesAreNew(t *testing.T) {
	k := flow.Key{From: flow.Addr{Ip: [16]byte{1, 2}, Port: 3}, To: flow.Addr{Ip: [16]byte{4, 5}, Port: 6}}
	was := k
	for _, call := range []func() []byte{k.Bytes, k.From.Bytes, k.To.Bytes, (&k).Bytes, (&k.From).Bytes, (&k.To).Bytes} {
		first, second := call(), call()
		kept := slices.Clone(second)
		spoil(first)
		if !bytes.Equal(second, kept) || !bytes.Equal(call(), kept) || k != was {
			t.Errorf("%x %x %v", second, kept, k)
		}
	}
}

// P24.1: New of every capacity, and of idle times at the bounds and beyond.
func TestNew(t *testing.T) {
	idles := []uint64{0, 1, 2, 1<<32 - 1, 1 << 32, 1<<40 - 1, 1 << 40, 1<<40 + 1, 1 << 41, 1 << 62, 1 << 63, 1<<63 + 1, math.MaxUint64}
	mosts := append([]int{math.MinInt, math.MinInt + 1, math.MinInt32, -1024, -1, 1 << 16, 1<<16 + 1, 1 << 32, 1<<32 + 1, 1<<32 + 1024, math.MaxInt32, math.MaxInt}, make([]int, 1100)...)
	for i := range 1100 {
		mosts[len(mosts)-1-i] = i
	}
	for _, most := range mosts {
		for _, idle := range idles {
			right := 1 <= most && most <= 1024 && 1 <= idle && idle <= 1<<40
			x, e := flow.New(most, idle)
			if !right {
				if x != nil || e != api.ErrRange {
					t.Fatal(most, idle, x, e)
				}
				continue
			}
			if x == nil || e != api.OK {
				t.Fatal(most, idle, e)
			}
			asks{t}.same(x, newModel(most, idle))
		}
	}
}

// P24.1, P24.3: a new table is empty for all calls, and others are not concerned by what is put into it.
func TestEmpty(t *testing.T) {
	a := asks{t}
	x, m := a.begin(3, 10)
	other, none := a.begin(3, 10)
	for _, now := range []uint64{0, 1, 10, 1 << 62, math.MaxUint64} {
		a.sweeps(x, m, now)
		a.gets(x, m, flow.Key{}, now)
		a.gets(x, m, key(1), now)
	}
	for backend := -2; backend < 70; backend++ {
		a.forgets(x, m, backend)
	}
	a.none(x, flow.Key{})
	a.same(x.Clone(), m)
	a.puts(x, m, flow.Key{}, 0, 0) // a key, a backend and a time like all others
	a.puts(x, m, key(1), 0, 0)
	a.same(other, none)
}

// P24.2: the chapter's example.
func TestExample(t *testing.T) {
	a := asks{t}
	x, m := a.begin(2, 100)
	a.puts(x, m, key(1), 5, 0)
	a.puts(x, m, key(2), 6, 0)
	if n, ok := x.Get(key(1), 0); n != 5 || !ok {
		t.Error(n, ok)
	}
	if k, ok, e := x.Put(key(3), 7, 0); k != key(2) || !ok || e != api.OK {
		t.Error(k, ok, e)
	}
	a.numbers(x, 1, 3)
	a.none(x, key(2))
}

// P24.2: every backend from 0 to 63, and none beyond.
func TestBackends(t *testing.T) {
	a := asks{t}
	x, m := a.begin(64, 10)
	for backend := range 64 {
		if e := a.puts(x, m, key(backend), backend, 7); e != api.OK {
			t.Error(backend, e)
		}
		if n, ok := x.Get(key(backend), 7); n != backend || !ok {
			t.Error(backend, n, ok)
		}
	}
	for _, backend := range beyond {
		if e := a.puts(x, m, key(100), backend, 7); e != api.ErrRange {
			t.Error(backend, e)
		}
	}
}

// P24.2: a wrong backend counts ahead of all else, and then nothing changes: no entry is removed, be it expired, evicted otherwise, or the key's own.
func TestPutRange(t *testing.T) {
	a := asks{t}
	for _, most := range []int{1, 2, 3} {
		x, m := a.begin(most, 10)
		for n := range 2 {
			a.puts(x, m, key(n), n, 5)
		}
		for _, now := range []uint64{0, 5, 14, 15, 16, math.MaxUint64} {
			for _, backend := range beyond {
				for n := range 4 {
					if e := a.puts(x, m, key(n), backend, now); e != api.ErrRange {
						t.Error(n, backend, now, e)
					}
				}
			}
		}
	}
}

// P24.2: an entry that has not expired stays as it is, unused, if its key is put again.
func TestPutThere(t *testing.T) {
	a := asks{t}
	for _, most := range []int{3, 4} {
		x, m := a.begin(most, 10)
		for n := range 3 {
			a.puts(x, m, key(n), n, 100)
		}
		for _, now := range []uint64{0, 99, 100, 101, 109} {
			for n := range 3 {
				if e := a.puts(x, m, key(n), 9, now); e != api.ErrThere {
					t.Error(n, now, e)
				}
				if e, _ := x.Of(key(n)); e != (flow.Entry{Backend: n, Last: 100}) {
					t.Error(n, now, e)
				}
			}
		}
		a.numbers(x, 0, 1, 2)
	}
}

// P24.2: an entry that is refused removes no others, though they have expired and the table is full.
func TestPutThereKeepsExpired(t *testing.T) {
	a := asks{t}
	x, m := a.begin(2, 10)
	a.puts(x, m, key(1), 1, 0)
	a.puts(x, m, key(2), 2, 5)
	if e := a.puts(x, m, key(2), 3, 12); e != api.ErrThere {
		t.Error(e)
	}
	a.numbers(x, 1, 2)
}

// P24.2: an expired entry of the same key makes place for the new one; no other is removed, be it expired too, even if the table was full.
func TestPutExpired(t *testing.T) {
	a := asks{t}
	for _, most := range []int{3, 5} {
		for n := range 3 {
			x, m := a.begin(most, 10)
			for i := range 3 {
				a.puts(x, m, key(i), i, 100)
			}
			if k, ok, e := x.Put(key(n), 60, 110); k != (flow.Key{}) || ok || e != api.OK {
				t.Error(n, k, ok, e)
			}
			m.put(key(n), 60, 110)
			a.same(x, m)
			if x.Len() != 3 {
				t.Error(n, x.Len())
			}
			if e, _ := x.Of(key(n)); e != (flow.Entry{Backend: 60, Last: 110}) {
				t.Error(n, e)
			}
		}
	}
}

// P24.2: as long as there is room, expired entries of other keys stay.
func TestPutWithRoom(t *testing.T) {
	a := asks{t}
	x, m := a.begin(4, 10)
	for n := range 3 {
		a.puts(x, m, key(n), n, 0)
	}
	a.puts(x, m, key(3), 3, 1000)
	a.numbers(x, 0, 1, 2, 3)
	a.puts(x, m, key(4), 4, 1000) // the table was full: all three go
	a.numbers(x, 3, 4)
}

// P24.2: in a full table all expired entries go, wherever they are in the order of use, and then none is evicted.
func TestPutFullOfExpired(t *testing.T) {
	a := asks{t}
	for set := range 1 << 5 { // which of five have expired
		x, m := a.begin(5, 10)
		var stay []int
		for n := range 5 {
			last := uint64(100)
			if set>>n&1 == 1 {
				last = 90
			} else {
				stay = append(stay, n)
			}
			a.puts(x, m, key(n), n, last)
		}
		k, ok, e := x.Put(key(9), 9, 100)
		if ok != (set == 0) || e != api.OK || set == 0 && k != key(0) || set != 0 && k != (flow.Key{}) {
			t.Error(set, k, ok, e)
		}
		if set == 0 {
			stay = stay[1:]
		}
		a.numbers(x, append(stay, 9)...)
	}
}

// P24.2, P24.4: the least recently used entry is evicted, though its last use has the latest time.
func TestEvictByOrder(t *testing.T) {
	a := asks{t}
	x, m := a.begin(3, 1000)
	a.puts(x, m, key(1), 1, 900)
	a.puts(x, m, key(2), 2, 500)
	a.puts(x, m, key(3), 3, 100)
	a.gets(x, m, key(2), 50)
	a.numbers(x, 1, 3, 2)
	for i, want := range []int{1, 3, 2, 4, 5} {
		if k, ok, e := x.Put(key(4+i), 4, 200); k != key(want) || !ok || e != api.OK {
			t.Error(i, k, ok, e)
		}
	}
	a.numbers(x, 6, 7, 8)
}

// P24.2: a capacity of 1.
func TestOne(t *testing.T) {
	a := asks{t}
	x, m := a.begin(1, 1)
	for n := range 50 {
		a.puts(x, m, key(n), n, uint64(n/5)) // five in a row at the same time, the others expired
		a.puts(x, m, key(n), n, uint64(n/5))
		a.gets(x, m, key(n), uint64(n/5))
		a.gets(x, m, key(n-1), uint64(n/5))
	}
	a.gets(x, m, key(49), 10)
	a.same(x, newModel(1, 1))
}

// P24.2, P24.4: the greatest capacity; each entry beyond it evicts one, in the order of use.
func TestGreatest(t *testing.T) {
	a := asks{t}
	x, _ := a.begin(1024, 1<<40)
	for n := range 1024 {
		if k, ok, e := x.Put(key(n), n%64, 0); k != (flow.Key{}) || ok || e != api.OK || x.Len() != n+1 {
			t.Fatal(n, k, ok, e)
		}
	}
	for n := range 1024 {
		if b, ok := x.Get(key(n), 1<<40-1); b != n%64 || !ok {
			t.Fatal(n, b, ok)
		}
	}
	for n := range 2000 {
		if k, ok, e := x.Put(key(1024+n), 0, 1<<40); k != key(n) || !ok || e != api.OK || x.Len() != 1024 {
			t.Fatal(n, k, ok, e)
		}
		a.none(x, key(n))
	}
}

// P24.2: Get uses an entry: the time becomes the current one, but no earlier one, and the entry the last in the order of use all the same.
func TestGet(t *testing.T) {
	a := asks{t}
	x, m := a.begin(5, 100)
	for n := range 5 {
		a.puts(x, m, key(n), 10+n, 50)
	}
	for _, c := range []struct {
		n    int
		now  uint64
		last uint64
	}{{0, 50, 50}, {2, 60, 60}, {4, 49, 50}, {4, 0, 50}, {2, 59, 60}, {2, 159, 159}, {1, 149, 149}, {2, 0, 159}, {3, 51, 51}} {
		if n, ok := x.Get(key(c.n), c.now); n != 10+c.n || !ok {
			t.Error(c, n, ok)
		}
		m.get(key(c.n), c.now)
		a.same(x, m)
		if e, ok := x.Of(key(c.n)); e != (flow.Entry{Backend: 10 + c.n, Last: c.last}) || !ok {
			t.Error(c, e, ok)
		}
	}
	a.numbers(x, 0, 4, 1, 2, 3)
}

// P24.2: Get finds nothing for any other key, and then nothing changes.
func TestGetNone(t *testing.T) {
	a := asks{t}
	x, m := a.begin(3, 10)
	for n := range 3 {
		a.puts(x, m, key(n), n, 0)
	}
	for _, now := range []uint64{0, 9, 10, math.MaxUint64} { // even if the others have expired
		if a.gets(x, m, key(3), now) || a.gets(x, m, flow.Key{}, now) {
			t.Error(now)
		}
	}
	a.numbers(x, 0, 1, 2)
}

// P24.2: an expired entry is removed by Get, that one alone, and from the idle time on, not earlier.
func TestGetExpired(t *testing.T) {
	a := asks{t}
	for _, idle := range []uint64{1, 2, 10, 1<<32 + 1, 1 << 40} {
		for _, last := range []uint64{0, 1, 77, 1 << 40, 1 << 62, math.MaxUint64 - 1<<40} {
			for n := range 3 {
				x, m := a.begin(3, idle)
				for i := range 3 {
					a.puts(x, m, key(i), i+1, last)
				}
				c, o := x.Clone(), m.clone()
				if !a.gets(x, m, key(n), last+idle-1) || a.gets(c, o, key(n), last+idle) {
					t.Error(idle, last, n)
				}
				a.none(c, key(n))
				if c.Len() != 2 || a.gets(c, o, key(n), last) {
					t.Error(idle, last, n)
				}
			}
		}
	}
}

// P24.2: each use puts the end off by the idle time.
func TestUsesKeep(t *testing.T) {
	a := asks{t}
	x, m := a.begin(2, 10)
	a.puts(x, m, key(1), 1, 0)
	now := uint64(0)
	for range 100 {
		now += 9
		a.sweeps(x, m, now)
		if !a.gets(x, m, key(1), now) {
			t.Fatal(now)
		}
	}
	a.gets(x, m, key(1), now-5) // does not bring the end forward
	if !a.gets(x, m, key(1), now+9) || a.gets(x, m, key(1), now+19) {
		t.Error(now)
	}
}

// P24.2, P24.3: times do not wrap around: an entry whose idle time would end beyond the last time never expires.
func TestTimesAtTheirEnd(t *testing.T) {
	a := asks{t}
	for _, idle := range []uint64{1, 2, 10, 1 << 40} {
		for _, last := range []uint64{math.MaxUint64, math.MaxUint64 - 1, math.MaxUint64 - 9, math.MaxUint64 - 10, 1<<63 - 1, 1 << 63} {
			for _, now := range []uint64{0, 1, 8, 9, 10, idle - 1, idle, idle + 1, 1<<63 - 1, 1 << 63, 1<<63 + 9, math.MaxUint64 - 1, math.MaxUint64} {
				x, m := a.begin(1, idle)
				a.puts(x, m, key(1), 1, last)
				c, o := x.Clone(), m.clone()
				a.sweeps(c, o, now)
				c, o = x.Clone(), m.clone()
				a.puts(c, o, key(1), 2, now)
				c, o = x.Clone(), m.clone()
				a.puts(c, o, key(2), 2, now)
				a.gets(x, m, key(1), now)
			}
		}
	}
	x, m := a.begin(1, 10)
	a.puts(x, m, key(1), 1, math.MaxUint64-9)
	a.sweeps(x, m, math.MaxUint64)
	if x.Len() != 1 {
		t.Error("expired at 2^64, which is no time")
	}
	a.sweeps(x, m, 0)
	a.sweeps(x, m, 1)
	if x.Len() != 1 {
		t.Error("expired before its last use")
	}
}

// P24.2, P24.3: keys that differ in a single bit are two, and so are those with From and To the other way round.
func TestKeys(t *testing.T) {
	a := asks{t}
	x, m := a.begin(400, 10)
	base := flow.Key{From: flow.Addr{Ip: [16]byte{1, 2, 3}, Port: 4}, To: flow.Addr{Ip: [16]byte{5, 6, 7}, Port: 8}}
	keys := []flow.Key{base, {From: base.To, To: base.From}, {From: base.From, To: base.From}, {From: base.From}, {To: base.To}, {}}
	for bit := range 128 {
		for _, field := range []func(k *flow.Key) *flow.Addr{func(k *flow.Key) *flow.Addr { return &k.From }, func(k *flow.Key) *flow.Addr { return &k.To }} {
			k := base
			field(&k).Ip[bit/8] ^= 1 << (bit % 8)
			keys = append(keys, k)
			if bit < 16 {
				k = base
				field(&k).Port ^= 1 << bit
				keys = append(keys, k)
			}
		}
	}
	for i, k := range keys {
		a.none(x, k)
		if _, ok := x.Get(k, 0); ok {
			t.Error(k)
		}
		if e := a.puts(x, m, k, i%64, 0); e != api.OK {
			t.Error(k, e)
		}
	}
	for i, k := range keys {
		if n, ok := x.Get(k, 0); n != i%64 || !ok {
			t.Error(k, n, ok)
		}
	}
	if x.Len() != len(keys) {
		t.Error(x.Len(), len(keys))
	}
}

// P24.3: Of tells also of an expired entry, and neither uses nor removes it.
func TestOf(t *testing.T) {
	a := asks{t}
	x, m := a.begin(3, 1)
	for n := range 3 {
		a.puts(x, m, key(n), 60+n, uint64(n))
	}
	for range 3 {
		for _, n := range []int{2, 0, 1, 0} {
			if e, ok := x.Of(key(n)); e != (flow.Entry{Backend: 60 + n, Last: uint64(n)}) || !ok {
				t.Error(n, e, ok)
			}
		}
		a.none(x, key(3))
		a.none(x, flow.Key{})
		a.same(x, m)
	}
	a.gets(x, m, key(0), 3)
	a.none(x, key(0))
	a.numbers(x, 1, 2)
}

// P24.3: Sweep removes all expired entries, wherever they are, and no others; it uses none.
func TestSweep(t *testing.T) {
	a := asks{t}
	for set := range 1 << 6 {
		x, m := a.begin(6, 10)
		count := 0
		var stay []int
		for n := range 6 {
			last := uint64(11)
			if set>>n&1 == 1 {
				last = 10
				count++
			} else {
				stay = append(stay, n)
			}
			a.puts(x, m, key(n), n, last)
		}
		a.sweeps(x, m, 19)
		if n := x.Sweep(20); n != count {
			t.Error(set, n)
		}
		a.numbers(x, stay...)
		for _, n := range stay {
			if e, _ := x.Of(key(n)); e.Last != 11 {
				t.Error(set, n, e)
			}
		}
		if n := x.Sweep(20); n != 0 {
			t.Error(set, n)
		}
	}
}

// P24.3, P24.4: without a use, the table is empty after the idle time, and not before.
func TestAllExpire(t *testing.T) {
	a := asks{t}
	x, m := a.begin(40, 20)
	for n := range 40 {
		a.puts(x, m, key(n), n, uint64(n/2))
	}
	for now := uint64(19); now < 39; now++ {
		a.sweeps(x, m, now)
		if want := 40 - 2*int(now-19); x.Len() != want {
			t.Error(now, x.Len(), want)
		}
	}
	a.sweeps(x, m, 39)
	a.same(x, newModel(40, 20))
}

// P24.3: Forget removes all entries of a backend, expired or not, and no others.
func TestForget(t *testing.T) {
	a := asks{t}
	d := draw(4)
	for backend := range 64 {
		x, m := a.begin(30, 10)
		for n := range 30 {
			a.puts(x, m, key(n), []int{backend, (backend + 1) % 64, d.below(64), 63 - backend}[d.below(4)], uint64(n))
		}
		for _, wrong := range beyond {
			if n := x.Forget(wrong); n != 0 {
				t.Error(wrong, n)
			}
		}
		a.same(x, m)
		a.forgets(x, m, backend)
		for _, e := range x.All() {
			if e.Backend == backend {
				t.Error(backend, e)
			}
		}
		a.forgets(x, m, backend)
		a.forgets(x, m, 63-backend)
		a.puts(x, m, key(99), backend, 30) // a backend may come again
	}
}

// P24.3: an iterator yields what there was when the iteration began, not when it was made, whatever changes during it.
func TestAllDuringChanges(t *testing.T) {
	a := asks{t}
	for name, change := range map[string]func(x *flow.Table){
		"put":    func(x *flow.Table) { x.Put(key(x.Len()+200), 9, 1) },
		"get":    func(x *flow.Table) { x.Get(key(1), 9) },
		"gone":   func(x *flow.Table) { x.Get(key(1), 500) },
		"sweep":  func(x *flow.Table) { x.Sweep(500) },
		"forget": func(x *flow.Table) { x.Forget(2); x.Forget(1) },
		"evict": func(x *flow.Table) {
			for n := range 10 {
				x.Put(key(300+n), 3, 5)
			}
		},
	} {
		x, m := a.begin(6, 100)
		all := x.All()
		for n := range 5 {
			a.puts(x, m, key(n), n, uint64(n))
		}
		want, at := m.list(), 0
		for k, e := range all {
			if at >= len(want) || want[at] != (row{k, e}) {
				t.Fatalf("%s: %v %v", name, k, e)
			}
			at++
			change(x)
		}
		if at != len(want) {
			t.Errorf("%s: %d", name, at)
		}
		if slices.Equal(rows(all), want) {
			t.Errorf("%s: a new iteration does not show the change", name)
		}
		if !slices.Equal(rows(all), rows(x.All())) {
			t.Errorf("%s: %v", name, rows(all))
		}
	}
}

// P24.3: an iteration may stop early, and within one there may be another.
func TestAllStops(t *testing.T) {
	a := asks{t}
	x, m := a.begin(8, 100)
	all := x.All()
	for range all {
		t.Error("a row of an empty table")
	}
	for n := range 8 {
		a.puts(x, m, key(n), n, 0)
	}
	want := m.list()
	for stop := range 9 {
		var got []row
		for k, e := range all {
			if len(got) == stop {
				break
			}
			got = append(got, row{k, e})
		}
		if !slices.Equal(got, want[:stop]) {
			t.Error(stop, got)
		}
	}
	calls := 0
	all(func(flow.Key, flow.Entry) bool { calls++; return false })
	if calls != 1 {
		t.Error(calls)
	}
	for k, e := range all {
		if !slices.Equal(rows(all), want) {
			t.Error(k, e)
		}
	}
	a.same(x, m)
}

// P24.3: a clone has the same state, with the order of use and both bounds, and neither table changes the other.
func TestClone(t *testing.T) {
	a := asks{t}
	for n := range 7 {
		x, m := a.begin(6, 10)
		for i := range n {
			a.puts(x, m, key(i), i, uint64(20-i))
		}
		a.gets(x, m, key(2), 0)
		c, o := x.Clone(), m.clone()
		a.same(c, o)
		for step, change := range []func(x *flow.Table, m *model){
			func(x *flow.Table, m *model) { a.gets(x, m, key(1), 22) },
			func(x *flow.Table, m *model) { a.puts(x, m, key(50), 5, 3) },
			func(x *flow.Table, m *model) { a.gets(x, m, key(0), 30) },
			func(x *flow.Table, m *model) { a.forgets(x, m, 3) },
			func(x *flow.Table, m *model) { a.puts(x, m, key(51), 5, 4) },
			func(x *flow.Table, m *model) { a.sweeps(x, m, 27) },
			func(x *flow.Table, m *model) {
				for i := range 9 {
					a.puts(x, m, key(60+i), i, 40)
				}
			},
		} {
			if step%2 == 0 {
				change(c, o)
			} else {
				change(x, m)
			}
			a.same(x, m)
			a.same(c, o)
		}
		again, p := c.Clone(), o.clone()
		a.sweeps(c, o, math.MaxUint64)
		a.same(again, p)
	}
}

// P24.2, P24.3: many calls in a row against the chapter's words.
func TestRows(t *testing.T) {
	a := asks{t}
	for seed := range 60 {
		d := draw(seed)
		most, idle := 1+d.below(12), uint64(1+d.below(30))
		x, m := a.begin(most, idle)
		base := []uint64{0, 1 << 40, 1 << 63, math.MaxUint64 - 60}[seed%4]
		for step := range 400 {
			k := key(d.below(most + 4))
			now := base + uint64(step/8+d.below(12)) // time goes on, and back at times
			switch d.below(12) {
			case 0:
				a.sweeps(x, m, now)
			case 1:
				a.forgets(x, m, d.below(8))
			case 2:
				x, m = x.Clone(), m.clone()
				a.same(x, m)
			case 3:
				a.puts(x, m, k, beyond[d.below(len(beyond))], now)
			case 4, 5, 6:
				a.gets(x, m, k, now)
			default:
				a.puts(x, m, k, d.below(6), now)
			}
		}
	}
}

// P24.4: never more entries than the capacity; one that was there goes only if it has expired, is evicted, or is forgotten; one is evicted only if the table is full of entries that have not expired, and it is the first of them in the order of use.
func TestStays(t *testing.T) {
	for seed := range 20 {
		d := draw(1000 + seed)
		most, idle := 1+d.below(20), uint64(5+d.below(20))
		x, _ := asks{t}.begin(most, idle)
		over := func(e flow.Entry, now uint64) bool { return now >= e.Last+idle }
		for step := range 500 {
			now, k, was := uint64(step/3+d.below(5)), key(d.below(2*most)), rows(x.All())
			evicted, ok, e := x.Put(k, d.below(64), now)
			if x.Len() > most || x.Len() != len(rows(x.All())) {
				t.Fatal(x.Len(), most)
			}
			live := slices.DeleteFunc(slices.Clone(was), func(r row) bool { return over(r.e, now) })
			if ok != (e == api.OK && len(live) == most) || ok && evicted != live[0].k {
				t.Fatal(evicted, ok, e, live)
			}
			for _, r := range live {
				entry, is := x.Of(r.k)
				if is == (ok && r.k == evicted) || is && entry != r.e {
					t.Fatal(r, entry, is)
				}
			}
		}
	}
}

// P24.3: what only reads changes nothing, and may be done by many at once.
func TestAtOnce(t *testing.T) {
	a := asks{t}
	x, m := a.begin(10, 5)
	for n := range 10 {
		a.puts(x, m, key(n), n, uint64(n))
	}
	want := m.list()
	var all sync.WaitGroup
	for range 8 {
		all.Go(func() {
			for range 50 {
				c := x.Clone()
				c.Sweep(math.MaxUint64)
				if c.Len() != 0 || x.Len() != 10 || x.Most() != 10 || !slices.Equal(rows(x.All()), want) {
					t.Error(c.Len(), x.Len())
				}
				for _, r := range want {
					if e, ok := x.Of(r.k); e != r.e || !ok || len(r.k.Bytes()) != 36 {
						t.Error(r, e, ok)
					}
				}
			}
		})
	}
	all.Wait()
	a.same(x, m)
}
