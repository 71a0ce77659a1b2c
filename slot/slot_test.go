package slot_test

import (
	"bytes"
	"iter"
	"math"
	"slices"
	"sync"
	"testing"

	"crossway/api"
	"crossway/codec"
	"crossway/mode"
	"crossway/slot"
)

// beyond are numbers of which there is no slot; some would be one if only their low bits counted.
var beyond = []int{math.MinInt, math.MinInt + 1, math.MinInt + 2, math.MinInt32, -65536, -256, -255, -64, -4, -3, -2, -1, 3, 4, 5, 6, 8, 63, 64, 65, 128, 192, 255, 256, 257, 258, 65536, 1 << 32, 1<<32 + 1, math.MaxInt32, math.MaxInt - 3, math.MaxInt}

// mixed are n bytes without a pattern; others for another seed.
func mixed(n int, seed uint64) []byte {
	b := make([]byte, n)
	for i := range b {
		seed = seed*6364136223846793005 + 1442695040888963407
		b[i] = byte(seed >> 40)
	}
	return b
}

// spoil writes over a slice, its spare capacity too. It counts up, so that a second time doesn't undo the first.
func spoil(b []byte) {
	b = b[:cap(b)]
	for i := range b {
		b[i]++
	}
}

// valid are configurations of every mode, at the edges and in the middle; no two are equal.
func valid() []mode.Config {
	k := [16]byte(mixed(16, 1))
	return []mode.Config{
		{Sid: 3, Nonce: 4}, {Sid: 1, Nonce: 4}, {Sid: 1, Nonce: 18}, {Sid: 15, Nonce: 4},
		{Mode: mode.MBlock, Sid: 8, Nonce: 8, Key: k}, {Mode: mode.MBlock, Sid: 1, Nonce: 15, Key: k}, {Mode: mode.MBlock, Sid: 12, Nonce: 4},
		{Mode: mode.MFour, Sid: 3, Nonce: 4, Key: k}, {Mode: mode.MFour, Sid: 1, Nonce: 4, Key: k}, {Mode: mode.MFour, Sid: 8, Nonce: 5, Key: k}, {Mode: mode.MFour, Sid: 1, Nonce: 18, Key: k}, {Mode: mode.MFour, Sid: 15, Nonce: 4},
	}
}

// invalid are configurations that break the words of layer 16, each in a way of its own.
func invalid() []mode.Config {
	k := [16]byte(mixed(16, 1))
	return []mode.Config{
		{}, {Sid: 3, Nonce: 4, Key: k}, {Sid: 0, Nonce: 4}, {Sid: 16, Nonce: 3}, {Sid: 3, Nonce: 3}, {Sid: 1, Nonce: 19}, {Sid: 10, Nonce: 10}, {Sid: -1, Nonce: 8}, {Sid: 8, Nonce: -1}, {Sid: math.MaxInt, Nonce: math.MaxInt}, {Sid: math.MinInt, Nonce: math.MinInt},
		{Mode: mode.MBlock, Sid: 8, Nonce: 7, Key: k}, {Mode: mode.MBlock, Sid: 3, Nonce: 4, Key: k},
		{Mode: mode.MFour, Sid: 0, Nonce: 8, Key: k}, {Mode: mode.MFour, Sid: 15, Nonce: 5, Key: k},
		{Mode: 3, Sid: 3, Nonce: 4}, {Mode: -1, Sid: 3, Nonce: 4}, {Mode: 256, Sid: 3, Nonce: 4},
	}
}

// three are configurations of three lengths, one for each point.
func three() [3]mode.Config {
	k := [16]byte(mixed(16, 2))
	return [3]mode.Config{{Sid: 3, Nonce: 4}, {Mode: mode.MBlock, Sid: 7, Nonce: 9, Key: k}, {Mode: mode.MFour, Sid: 2, Nonce: 8, Key: k}}
}

// filled are slots with the three configurations, installed in the order of their points.
func filled(t *testing.T) (*slot.Slots, *model) {
	t.Helper()
	s, m := slot.New(), new(model)
	for point, c := range three() {
		asks{t}.installs(s, m, point, c)
	}
	return s, m
}

// model is the slots in the chapter's words: all that was installed, in order, with what is retired marked.
type model struct{ past []event }

type event struct {
	point int
	c     mode.Config
	gone  bool
}

// find gives the place of a point's configuration in the past, counted from 1; 0 if the slot is empty.
func (m *model) find(point int) int {
	for i, e := range m.past {
		if e.point == point && !e.gone {
			return i + 1
		}
	}
	return 0
}

func (m *model) install(point int, c mode.Config) api.Errno {
	switch {
	case point != 0 && point != 1 && point != 2:
		return api.ErrRange
	case !c.Right():
		return api.ErrForm
	case m.find(point) > 0:
		return api.ErrThere
	}
	m.past = append(m.past, event{point: point, c: c})
	return api.OK
}

func (m *model) retire(point int) api.Errno {
	switch {
	case point != 0 && point != 1 && point != 2:
		return api.ErrRange
	case m.find(point) == 0:
		return api.ErrNone
	}
	m.past[m.find(point)-1].gone = true
	return api.OK
}

func (m *model) show(id []byte) (codec.Parts, api.Errno) {
	if len(id) == 0 {
		return codec.Parts{}, api.ErrEnd
	}
	n := m.find(int(id[0]) / 64)
	if n == 0 {
		return codec.Parts{}, api.ErrNone
	}
	return codec.Back(m.past[n-1].c, id)
}

func (m *model) short(b []byte) (codec.Parts, api.Errno) {
	if len(b) < 2 {
		return codec.Parts{}, api.ErrEnd
	}
	n := m.find(int(b[1]) / 64)
	if n == 0 {
		return codec.Parts{}, api.ErrNone
	}
	c := m.past[n-1].c
	if len(b)-1 < 1+c.Sid+c.Nonce {
		return codec.Parts{}, api.ErrEnd
	}
	return codec.Back(c, b[1:2+c.Sid+c.Nonce])
}

func (m *model) clone() *model { return &model{past: slices.Clone(m.past)} }

// asks are the calls of one test.
type asks struct{ *testing.T }

// installs asks whether Install does as the model does.
func (a asks) installs(s *slot.Slots, m *model, point int, c mode.Config) {
	a.Helper()
	want := m.install(point, c)
	if e := s.Install(point, c); e != want {
		a.Fatalf("%d %+v: %d, not %d", point, c, e, want)
	}
	a.same(s, m)
}

// retires asks whether Retire does as the model does.
func (a asks) retires(s *slot.Slots, m *model, point int) {
	a.Helper()
	want := m.retire(point)
	if e := s.Retire(point); e != want {
		a.Fatalf("%d: %d, not %d", point, e, want)
	}
	a.same(s, m)
}

// same asks whether Of, Stamp and All tell what the model does.
func (a asks) same(s *slot.Slots, m *model) {
	a.Helper()
	var points []int
	for point := range 3 {
		n := m.find(point)
		var want mode.Config
		if n > 0 {
			points, want = append(points, point), m.past[n-1].c
		}
		if c, ok := s.Of(point); c != want || ok != (n > 0) {
			a.Fatalf("%d: %+v %v, not %+v", point, c, ok, want)
		}
		if x := s.Stamp(point); x != int64(n) {
			a.Fatalf("%d: %d, not %d", point, x, n)
		}
	}
	for _, point := range beyond {
		if c, ok := s.Of(point); c != (mode.Config{}) || ok {
			a.Fatalf("%d: %+v %v", point, c, ok)
		}
		if x := s.Stamp(point); x != 0 {
			a.Fatalf("%d: %d", point, x)
		}
	}
	a.lists(s.All(), m, points...)
}

// lists asks whether an iterator yields these points in this order, with the configurations that the model has now.
func (a asks) lists(all iter.Seq2[int, mode.Config], m *model, points ...int) {
	a.Helper()
	was := m.clone()
	var list []int
	for point, c := range all {
		if n := was.find(point); n == 0 || was.past[n-1].c != c {
			a.Fatalf("%d: %+v", point, c)
		}
		list = append(list, point)
	}
	if !slices.Equal(list, points) {
		a.Fatalf("%d, not %d", list, points)
	}
}

// shows asks whether Show and Short decode an id, or refuse it, as the model does: the id alone, and with any bytes before it and behind it.
func (a asks) shows(s *slot.Slots, m *model, id []byte) {
	a.Helper()
	p, e := s.Show(id)
	want, err := m.show(id)
	a.parts(id, p, e, want, err)
	for _, first := range []byte{0, 0x40, 0x47, 0xc0, 0xff} {
		for _, tail := range []int{0, 1, 30} {
			a.shorts(s, m, slices.Concat([]byte{first}, id, mixed(tail, 3)))
		}
	}
	a.shorts(s, m, id)
}

// shorts asks whether Short decodes a packet's id, or refuses it, as the model does.
func (a asks) shorts(s *slot.Slots, m *model, b []byte) {
	a.Helper()
	p, e := s.Short(b)
	want, err := m.short(b)
	a.parts(b, p, e, want, err)
}

// parts asks whether both results are equal, and zero beside an error.
func (a asks) parts(b []byte, p codec.Parts, e api.Errno, want codec.Parts, err api.Errno) {
	a.Helper()
	if p.Point != want.Point || !bytes.Equal(p.Sid, want.Sid) || !bytes.Equal(p.Nonce, want.Nonce) || e != err {
		a.Fatalf("%x: %+v %d, not %+v %d", b, p, e, want, err)
	}
	if e != api.OK && (p.Point != 0 || len(p.Sid) != 0 || len(p.Nonce) != 0) {
		a.Fatalf("%x: %+v %d", b, p, e)
	}
}

// noShow asks whether Show refuses an id with this error.
func (a asks) noShow(s *slot.Slots, id []byte, want api.Errno) {
	a.Helper()
	p, e := s.Show(id)
	a.parts(id, p, e, codec.Parts{}, want)
}

// noShort asks whether Short refuses a packet with this error.
func (a asks) noShort(s *slot.Slots, b []byte, want api.Errno) {
	a.Helper()
	p, e := s.Short(b)
	a.parts(b, p, e, codec.Parts{}, want)
}

// made is an id of parts.
func made(t *testing.T, c mode.Config, point int, sid, nonce []byte) []byte {
	t.Helper()
	id, e := codec.Make(c, point, sid, nonce)
	if e != api.OK {
		t.Fatalf("%+v: %d", c, e)
	}
	return id
}

// P18.1, P18.2, P18.3: new slots are three empty ones.
func TestNew(t *testing.T) {
	a, s, m := asks{t}, slot.New(), new(model)
	a.same(s, m)
	for b := range 256 {
		a.noShow(s, []byte{byte(b)}, api.ErrNone)
		a.noShow(s, append([]byte{byte(b)}, make([]byte, b%64)...), api.ErrNone)
		a.noShort(s, append([]byte{0x40, byte(b)}, make([]byte, 30)...), api.ErrNone)
	}
	for point := range 3 {
		a.retires(s, m, point)
	}
	for point, c := range three() {
		a.installs(s, m, point, c)
	}
	a.same(slot.New(), new(model)) // others are not concerned
}

// P18.2: the chapter's example, with an id that begins with 0x47.
func TestExample(t *testing.T) {
	s := slot.New()
	if e := s.Install(1, mode.Config{Mode: mode.MPlain, Sid: 3, Nonce: 4}); e != api.OK {
		t.Fatal(e)
	}
	id, want := []byte{0x47, 1, 2, 3, 4, 5, 6, 7}, codec.Parts{Point: 1, Sid: []byte{1, 2, 3}, Nonce: []byte{4, 5, 6, 7}}
	p, e := s.Show(id)
	asks{t}.parts(id, p, e, want, api.OK)
	p, e = s.Short(slices.Concat([]byte{0x40}, id))
	asks{t}.parts(id, p, e, want, api.OK)
	p, e = s.Short(slices.Concat([]byte{0xff}, id, []byte{8, 9}))
	asks{t}.parts(id, p, e, want, api.OK)
}

// P18.1: each valid configuration at each point, and nothing at the others.
func TestInstall(t *testing.T) {
	a := asks{t}
	for _, c := range valid() {
		for point := range 3 {
			s, m := slot.New(), new(model)
			a.installs(s, m, point, c)
			if got, ok := s.Of(point); got != c || !ok || s.Stamp(point) != 1 {
				t.Errorf("%d %+v: %+v %v %d", point, c, got, ok, s.Stamp(point))
			}
			a.retires(s, m, point)
			a.installs(s, m, point, c)
			if s.Stamp(point) != 2 {
				t.Errorf("%d %+v: %d", point, c, s.Stamp(point))
			}
		}
	}
	c := valid()[7]
	s, m := slot.New(), new(model)
	for _, point := range []int{2, 0, 1} { // the same one at all points
		a.installs(s, m, point, c)
	}
}

// P18.1: what Install refuses, in the order of its errors, and that it changes nothing, not even the next stamp.
func TestInstallRefused(t *testing.T) {
	good := valid()[7]
	for name, begin := range map[string]func() (*slot.Slots, *model){
		"empty":  func() (*slot.Slots, *model) { return slot.New(), new(model) },
		"filled": func() (*slot.Slots, *model) { return filled(t) },
	} {
		s, m := begin()
		for _, point := range beyond {
			if e := s.Install(point, good); e != api.ErrRange {
				t.Error(name, point, e)
			}
			for _, c := range invalid() {
				if e := s.Install(point, c); e != api.ErrRange {
					t.Error(name, point, c, e)
				}
			}
		}
		for point := range 3 {
			for _, c := range invalid() {
				if e := s.Install(point, c); e != api.ErrForm {
					t.Error(name, point, c, e)
				}
			}
			if name == "empty" {
				continue
			}
			for _, c := range append(valid(), three()[point]) { // also the one that it has
				if e := s.Install(point, c); e != api.ErrThere {
					t.Error(name, point, c, e)
				}
			}
		}
		asks{t}.same(s, m)
		s.Retire(1)
		m.retire(1)
		asks{t}.installs(s, m, 1, good)
	}
}

// P18.1: what Retire refuses, and that it changes nothing; a slot that is emptied takes any configuration again.
func TestRetire(t *testing.T) {
	a := asks{t}
	s, m := filled(t)
	for _, point := range beyond {
		if e := s.Retire(point); e != api.ErrRange {
			t.Error(point, e)
		}
	}
	a.same(s, m)
	for _, point := range []int{1, 0, 2} {
		if e := s.Retire(point); e != api.OK {
			t.Error(point, e)
		}
		m.retire(point)
		a.same(s, m)
		if e := s.Retire(point); e != api.ErrNone {
			t.Error(point, e)
		}
		a.same(s, m)
		a.noShow(s, []byte{byte(64 * point)}, api.ErrNone)
	}
	for _, point := range beyond {
		if e := s.Retire(point); e != api.ErrRange {
			t.Error(point, e)
		}
	}
	for i, c := range valid() {
		a.installs(s, m, i%3, c)
		a.retires(s, m, i%3)
	}
}

// P18.1: stamps count what was installed in any slot, also what is retired, and nothing that was refused.
func TestStamps(t *testing.T) {
	s, c := slot.New(), valid()
	stamps := func(want ...int64) {
		t.Helper()
		if got := []int64{s.Stamp(0), s.Stamp(1), s.Stamp(2)}; !slices.Equal(got, want) {
			t.Errorf("%d, not %d", got, want)
		}
	}
	stamps(0, 0, 0)
	s.Install(2, c[0])
	stamps(0, 0, 1)
	s.Install(2, c[1])
	s.Install(3, c[1])
	s.Install(0, mode.Config{})
	stamps(0, 0, 1)
	s.Install(0, c[0])
	stamps(2, 0, 1)
	s.Retire(2)
	stamps(2, 0, 0)
	s.Install(1, c[2])
	stamps(2, 3, 0)
	s.Install(2, c[0])
	stamps(2, 3, 4)
	s.Retire(0)
	s.Retire(1)
	s.Retire(2)
	stamps(0, 0, 0)
	s.Install(1, c[3])
	stamps(0, 5, 0)
	for range 1000 {
		s.Retire(1)
		s.Install(1, c[3])
	}
	stamps(0, 1005, 0)
}

// P18.1, P18.2, P18.3: many operations in a row, and ids of all kinds between them, against the chapter's words.
func TestRows(t *testing.T) {
	a, list := asks{t}, append(valid(), invalid()[:4]...)
	for seed := range 40 {
		s, m := slot.New(), new(model)
		for i, b := range mixed(120, uint64(seed)) {
			point := int(b>>2)%5 - 1
			c := list[(int(b)+i)%len(list)]
			switch b % 4 {
			case 0, 1:
				a.installs(s, m, point, c)
			case 2:
				a.retires(s, m, point)
			default:
				if c.Right() {
					a.shows(s, m, made(t, c, int(b>>4)%3, mixed(c.Sid, 1), mixed(c.Nonce, uint64(i))))
				}
				a.shows(s, m, mixed(int(b>>2)%25, uint64(i)))
				if i%3 == 0 {
					s, m = s.Clone(), m.clone()
				}
			}
		}
	}
}

// P18.2: the point of the first byte selects the slot: ids of each configuration at each point.
func TestPointSelects(t *testing.T) {
	a := asks{t}
	s, m := filled(t)
	for from, c := range three() {
		sid, nonce := mixed(c.Sid, 4), mixed(c.Nonce, 5)
		for point := range 3 {
			id := made(t, c, point, sid, nonce)
			a.shows(s, m, id)
			if p, e := s.Show(id); (e == api.OK) != (point == from) {
				t.Errorf("%d %d: %+v %d", from, point, p, e)
			} else if point == from {
				a.parts(id, p, e, codec.Parts{Point: point, Sid: sid, Nonce: nonce}, api.OK)
			}
		}
	}
	one, other := mode.Config{Mode: mode.MFour, Sid: 3, Nonce: 4, Key: [16]byte{1}}, mode.Config{Mode: mode.MFour, Sid: 3, Nonce: 4, Key: [16]byte{2}} // of one length
	s, m = slot.New(), new(model)
	a.installs(s, m, 0, one)
	a.installs(s, m, 2, other)
	sid, nonce := []byte{0, 0, 9}, []byte{1, 2, 3, 4}
	for point, c := range map[int]mode.Config{0: one, 2: other} {
		id := made(t, c, point, sid, nonce)
		p, e := s.Show(id)
		a.parts(id, p, e, codec.Parts{Point: point, Sid: sid, Nonce: nonce}, api.OK)
		a.shows(s, m, id)
		id[0] ^= 0x80 // the other's point: its key shows something else
		if p, e := s.Show(id); e != api.OK || p.Point != 2-point || bytes.Equal(p.Sid, sid) {
			t.Errorf("%x: %+v %d", id, p, e)
		}
		a.shows(s, m, id)
		id[0] = 0x47 // the empty slot
		a.noShow(s, id, api.ErrNone)
		a.noShort(s, slices.Concat([]byte{0}, id), api.ErrNone)
	}
	a.retires(s, m, 0)
	a.noShow(s, made(t, one, 0, sid, nonce), api.ErrNone)
	a.installs(s, m, 0, other)
	id := made(t, other, 0, sid, nonce)
	p, e := s.Show(id)
	a.parts(id, p, e, codec.Parts{Point: 0, Sid: sid, Nonce: nonce}, api.OK)
}

// P18.2: every first byte with ids of every length, with none, one and all of the slots empty.
func TestShowEveryFirstByte(t *testing.T) {
	a := asks{t}
	s, m := filled(t)
	for _, gone := range []int{3, 1, 0, 2} {
		s.Retire(gone)
		m.retire(gone)
		for b := range 256 {
			for n := range 26 {
				id := mixed(n, uint64(b))
				if n > 0 {
					id[0] = byte(b)
				}
				a.shows(s, m, id)
			}
		}
	}
}

// P18.2: what Show refuses, by hand: an empty id first, then the slot, then the errors of layer 17 in its order.
func TestShowRefused(t *testing.T) {
	a := asks{t}
	s, _ := filled(t)
	s.Retire(1)
	a.noShow(s, nil, api.ErrEnd)
	a.noShow(s, []byte{}, api.ErrEnd)
	a.noShow(s, []byte{0x07, 1, 2, 3, 4, 5, 6, 7}[:0], api.ErrEnd) // what lies behind the length does not count
	a.noShow(slot.New(), nil, api.ErrEnd)
	for n := 1; n < 300; n++ {
		b := make([]byte, n)
		for _, first := range []byte{0xc0, 0xc7, 0xff, 0x40, 0x50, 0x7f} {
			b[0] = first
			a.noShow(s, b, api.ErrNone)
		}
		if n != 8 {
			b[0] = 0x07
			a.noShow(s, b, api.ErrRange)
			b[0] = byte(n-1) & 0x3f
			a.noShow(s, b, api.ErrRange)
		}
	}
	for b := range 64 {
		if b != 7 {
			a.noShow(s, append([]byte{byte(b)}, make([]byte, 7)...), api.ErrForm)
		}
	}
	a.noShow(s, make([]byte, 1<<20), api.ErrRange)
}

// P18.2: what Short refuses, by hand: fewer than two bytes first, then the slot, then a cut id, then another length in the id's first byte.
func TestShortRefused(t *testing.T) {
	a := asks{t}
	s, _ := filled(t)
	s.Retire(1)
	a.noShort(s, nil, api.ErrEnd)
	a.noShort(s, []byte{}, api.ErrEnd)
	for b := range 256 {
		a.noShort(s, []byte{byte(b)}, api.ErrEnd)
		a.noShort(s, []byte{byte(b), 0x07}[:1], api.ErrEnd) // what lies behind the length does not count
		a.noShort(s, []byte{byte(b), 0xc7}, api.ErrNone)
		a.noShort(s, []byte{byte(b), 0x47}, api.ErrNone)
		a.noShort(s, []byte{byte(b), 0x07}, api.ErrEnd)
		for n := 2; n < 40; n++ {
			packet := make([]byte, n, 50)
			packet[0] = byte(b)
			for _, first := range []byte{0xc0, 0xff, 0x40, 0x47, 0x7f} {
				packet[1] = first
				a.noShort(s, packet, api.ErrNone)
			}
			for _, first := range []byte{0x00, 0x06, 0x08, 0x3f} {
				packet[1] = first
				if n < 9 {
					a.noShort(s, packet, api.ErrEnd)
				} else {
					a.noShort(s, packet, api.ErrForm)
				}
			}
		}
	}
}

// P18.2: packets of every length and with every first byte, for each configuration: the id is just the Size bytes after the first one.
func TestShort(t *testing.T) {
	a := asks{t}
	for i, c := range valid() {
		s, m, point := slot.New(), new(model), i%3
		a.installs(s, m, point, c)
		sid, nonce := mixed(c.Sid, 6), mixed(c.Nonce, 7)
		id, want := made(t, c, point, sid, nonce), codec.Parts{Point: point, Sid: sid, Nonce: nonce}
		whole := slices.Concat([]byte{0}, id, mixed(40, 8))
		for n := range len(whole) + 1 {
			p, e := s.Short(whole[:n])
			if n < 1+len(id) {
				a.parts(whole[:n], p, e, codec.Parts{}, api.ErrEnd)
			} else {
				a.parts(whole[:n], p, e, want, api.OK)
			}
		}
		for b := range 256 {
			whole[0] = byte(b)
			p, e := s.Short(whole)
			a.parts(whole, p, e, want, api.OK)
		}
		for b := range 256 {
			whole[1] = byte(b)
			a.shorts(s, m, whole)
			a.shorts(s, m, whole[:1+len(id)])
		}
		p, e := s.Short(slices.Concat([]byte{0x40}, id, make([]byte, 1<<20)))
		a.parts(id, p, e, want, api.OK)
	}
}

// P18.3: All yields each set of slots that are not empty in the order of their points, whatever the order in which they were installed.
func TestAll(t *testing.T) {
	a := asks{t}
	for _, order := range [][]int{{0, 1, 2}, {0, 2, 1}, {1, 0, 2}, {1, 2, 0}, {2, 0, 1}, {2, 1, 0}} {
		s, m := slot.New(), new(model)
		for _, point := range order {
			a.installs(s, m, point, three()[point])
		}
		for _, point := range order {
			a.retires(s, m, point)
		}
	}
}

// P18.3: an iteration yields what there was when it began, whatever changes during it.
func TestAllDuringChanges(t *testing.T) {
	other := valid()[9]
	changes := map[string]func(s *slot.Slots){
		"all retired":   func(s *slot.Slots) { s.Retire(0); s.Retire(1); s.Retire(2) },
		"last retired":  func(s *slot.Slots) { s.Retire(2) },
		"first retired": func(s *slot.Slots) { s.Retire(0) },
		"all filled":    func(s *slot.Slots) { s.Install(0, other); s.Install(1, other); s.Install(2, other) },
		"replaced":      func(s *slot.Slots) { s.Retire(1); s.Install(1, other); s.Retire(2); s.Install(2, other) },
	}
	for name, change := range changes {
		for gone := range 4 { // 3: none of them
			for at := range 3 {
				t.Run(name, func(t *testing.T) { changed(t, change, gone, at) })
			}
		}
	}
}

// changed asks whether an iteration yields all that there was, with one slot empty, where a change happens at one of its elements.
func changed(t *testing.T, change func(s *slot.Slots), gone, at int) {
	s, m := filled(t)
	s.Retire(gone)
	m.retire(gone)
	points := slices.DeleteFunc([]int{0, 1, 2}, func(point int) bool { return point == gone })
	all := s.All()
	asks{t}.lists(func(yield func(int, mode.Config) bool) {
		n := 0
		for point, c := range all {
			if n == at {
				change(s)
			}
			n++
			if !yield(point, c) {
				return
			}
		}
	}, m, points...)
}

// P18.3: an iterator may be used again, and then starts with what there is by then; not with what there was when All was called.
func TestAllAgain(t *testing.T) {
	a, s, m := asks{t}, slot.New(), new(model)
	all := s.All()
	a.lists(all, m)
	a.installs(s, m, 2, three()[2])
	a.lists(all, m, 2)
	a.lists(all, m, 2)
	a.installs(s, m, 0, three()[0])
	a.lists(all, m, 0, 2)
	var points []int
	for point := range all { // iterations within another one
		points = append(points, point)
		a.lists(all, m, 0, 2)
		a.retires(s, m, 2)
		a.lists(all, m, 0)
		a.installs(s, m, 2, three()[1])
		a.lists(all, m, 0, 2)
	}
	if !slices.Equal(points, []int{0, 2}) {
		t.Error(points)
	}
	a.retires(s, m, 0)
	a.lists(all, m, 2)
	a.retires(s, m, 2)
	a.lists(all, m)
}

// P18.3: the consumer may stop at each place, and then gets no more.
func TestAllStops(t *testing.T) {
	s, m := filled(t)
	all := s.All()
	for stop := range 3 {
		var points []int
		all(func(point int, _ mode.Config) bool {
			points = append(points, point)
			return point != stop
		})
		if !slices.Equal(points, []int{0, 1, 2}[:stop+1]) {
			t.Error(stop, points)
		}
		asks{t}.lists(all, m, 0, 1, 2)
	}
}

// P18.3: a clone has the same state, also the stamp that comes next, and neither changes the other.
func TestClone(t *testing.T) {
	a := asks{t}
	for gone := range 4 {
		s, m := filled(t)
		s.Retire(gone)
		m.retire(gone)
		c, n := s.Clone(), m.clone()
		a.same(c, n)
		for i, point := range []int{2, 0, 1} {
			a.installs(c, n, point, valid()[i])
			a.retires(c, n, point)
			a.same(s, m)
			a.installs(c, n, point, valid()[i+3])
			a.same(s, m)
		}
		for i, point := range []int{1, 2, 0} {
			a.retires(s, m, point)
			a.installs(s, m, point, valid()[i+6])
			a.retires(s, m, point)
			a.same(c, n)
		}
		again := c.Clone()
		a.same(again, n)
		a.retires(c, n, 1)
		if again.Stamp(1) == 0 || c.Stamp(1) != 0 {
			t.Error(again.Stamp(1), c.Stamp(1))
		}
	}
	a.same(slot.New().Clone(), new(model))
	s, m := filled(t)
	c := s.Clone()
	all := c.All() // a clone's iterator is its own
	s.Retire(0)
	a.lists(all, m, 0, 1, 2)
	c.Retire(1)
	m.retire(1)
	a.lists(all, m, 0, 2)
}

// P18.3: reading changes nothing.
func TestReadingChangesNothing(t *testing.T) {
	a := asks{t}
	s, m := filled(t)
	for point, c := range three() {
		id := made(t, c, point, mixed(c.Sid, 1), mixed(c.Nonce, 2))
		for _, b := range [][]byte{id, id[1:], id[:len(id)-1], nil, append([]byte{9}, id...)} {
			s.Show(b)
			s.Short(b)
		}
		s.Of(point)
		s.Stamp(point)
		s.Clone().Retire(point)
		for range s.All() {
		}
	}
	a.same(s, m)
	a.retires(s, m, 0)
	a.installs(s, m, 0, three()[1])
}

// P18.3: arguments stay as they are, what lies behind their end too.
func TestArgumentsStay(t *testing.T) {
	s, m := filled(t)
	for point, c := range three() {
		id := made(t, c, point, mixed(c.Sid, 1), mixed(c.Nonce, 2))
		whole := slices.Concat([]byte{0x40}, id, []byte{0xa5, 0xa5, 0xa5, 0xa5})
		want := slices.Clone(whole)
		for n := range len(whole) + 1 {
			s.Short(whole[:n])
			s.Show(whole[:n])
			s.Show(whole[1:max(n, 1)])
		}
		if !bytes.Equal(whole, want) {
			t.Errorf("%x, not %x", whole, want)
		}
	}
	asks{t}.same(s, m)
	c := three()[2] // installed slots do not hang on the variable
	e := s.Retire(0)
	if e == api.OK {
		e = s.Install(0, c)
	}
	c.Key[0]++
	if got, ok := s.Of(0); e != api.OK || got != three()[2] || !ok {
		t.Error(got, ok, e)
	}
}

// P18.3: parts share no memory: not with the id, nor with each other or with earlier ones, to the end of their capacity.
func TestResultsAreNew(t *testing.T) {
	for i, c := range valid() {
		s, point := slot.New(), i%3
		s.Install(point, c)
		sid, nonce := mixed(c.Sid, 1), mixed(c.Nonce, 2)
		packet := slices.Concat([]byte{0x40}, made(t, c, point, sid, nonce), mixed(9, 3))
		was := slices.Clone(packet)
		for name, call := range map[string]func() codec.Parts{
			"Show":  func() codec.Parts { p, _ := s.Show(packet[1 : 1+c.Size()]); return p },
			"Short": func() codec.Parts { p, _ := s.Short(packet); return p },
		} {
			first, again := call(), call()
			spoil(first.Sid)
			if !bytes.Equal(first.Nonce, nonce) {
				t.Errorf("%s %+v: %x, not %x", name, c, first.Nonce, nonce)
			}
			sidWas := slices.Clone(first.Sid)
			spoil(first.Nonce)
			if !bytes.Equal(first.Sid, sidWas) || !bytes.Equal(packet, was) {
				t.Errorf("%s %+v: %x, not %x; %x, not %x", name, c, first.Sid, sidWas, packet, was)
			}
			third := call()
			spoil(packet)
			for _, p := range []codec.Parts{again, third} {
				if p.Point != point || !bytes.Equal(p.Sid, sid) || !bytes.Equal(p.Nonce, nonce) {
					t.Errorf("%s %+v: %+v, not %x %x", name, c, p, sid, nonce)
				}
			}
			copy(packet, was)
		}
	}
}

// P18.2, P18.3: many goroutines that only read do no harm to each other.
func TestAtOnce(t *testing.T) {
	s, _ := filled(t)
	var all sync.WaitGroup
	for point, c := range three() {
		sid, nonce := mixed(c.Sid, 1), mixed(c.Nonce, 2)
		id := made(t, c, point, sid, nonce)
		for range 3 {
			all.Go(func() {
				for range 50 {
					p, e := s.Show(id)
					if e != api.OK || p.Point != point || !bytes.Equal(p.Sid, sid) || !bytes.Equal(p.Nonce, nonce) {
						t.Errorf("%+v %d", p, e)
					}
					n := 0
					for range s.All() {
						n++
					}
					if own := s.Clone(); own.Retire(point) != api.OK || n != 3 || s.Stamp(point) != int64(point+1) {
						t.Error(n, s.Stamp(point))
					}
				}
			})
		}
	}
	all.Wait()
}
