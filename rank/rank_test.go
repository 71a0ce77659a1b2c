package rank_test

import (
	"bytes"
	"fmt"
	"maps"
	"math"
	"slices"
	"sync"
	"testing"

	"crossway/mix"
	"crossway/rank"
)

// beyond are numbers that no Id and no Weight may be; some would be one if only their low bits counted.
var beyond = []int{math.MinInt, math.MinInt + 1, math.MinInt32, -1 << 32, -256, -255, -64, -63, -17, -16, -2, -1, 64, 65, 127, 128, 255, 256, 257, 259, 272, 319, 1 << 16, 1<<16 + 1, 1 << 32, 1<<32 + 1, 1<<32 + 16, 1<<32 + 63, math.MaxInt32, math.MaxInt - 255, math.MaxInt}

// seeds are some of the ends, and some between.
var seeds = []uint64{0, 1, 5, 255, 1 << 32, 1 << 63, 14695981039346656037, math.MaxUint64 - 1, math.MaxUint64}

// draw gives numbers without a pattern.
type draw uint64

func (d *draw) below(n int) int {
	*d = *d*6364136223846793005 + 1442695040888963407
	return int(*d>>33) % n
}

func (d *draw) bytes(n int) []byte {
	b := make([]byte, n)
	for i := range b {
		b[i] = byte(d.below(256))
	}
	return b
}

// distinct is a list of n entries within the bounds, no Id twice, in no order.
func (d *draw) distinct(n int) []rank.Entry {
	list := make([]rank.Entry, 64)
	for i := range list {
		list[i] = rank.Entry{Id: i, Weight: 1 + d.below(16)}
	}
	d.shuffle(list)
	return list[:n]
}

// mixed is a list of n entries, some of them out of bounds, some with an Id that another one has.
func (d *draw) mixed(n int) []rank.Entry {
	list := make([]rank.Entry, n)
	for i := range list {
		list[i] = rank.Entry{Id: d.below(70) - 3, Weight: d.below(20) - 1}
		if d.below(10) == 0 {
			list[i].Id = beyond[d.below(len(beyond))]
		}
		if d.below(10) == 0 {
			list[i].Weight = beyond[d.below(len(beyond))]
		}
	}
	return list
}

func (d *draw) shuffle(list []rank.Entry) {
	for i := len(list) - 1; i > 0; i-- {
		j := d.below(i + 1)
		list[i], list[j] = list[j], list[i]
	}
}

// keys are n keys, the first of them empty.
func (d *draw) keys(n int) [][]byte {
	keys := make([][]byte, n)
	for i := range keys {
		keys[i] = d.bytes(i % 23)
	}
	return keys
}

func right(e rank.Entry) bool {
	return 0 <= e.Id && e.Id <= 63 && 1 <= e.Weight && e.Weight <= 16
}

// score is the chapter's score: the greatest of all mixes.
func score(seed uint64, key []byte, e rank.Entry) uint64 {
	var all []uint64
	for n := 0; n <= e.Weight-1; n++ {
		all = append(all, mix.Mix(seed, key, []byte{byte(e.Id)}, []byte{byte(n)}))
	}
	return slices.Max(all)
}

// order is the chapter's order: time after time the best of those that are left.
func order(seed uint64, key []byte, list []rank.Entry) []int {
	var left []rank.Entry
	for _, e := range list {
		if right(e) && !slices.ContainsFunc(left, func(o rank.Entry) bool { return o.Id == e.Id }) {
			left = append(left, e)
		}
	}
	var ids []int
	for len(left) > 0 {
		best := 0
		for i, e := range left {
			s, most := score(seed, key, e), score(seed, key, left[best])
			if s > most || s == most && e.Id < left[best].Id {
				best = i
			}
		}
		ids = append(ids, left[best].Id)
		left = slices.Delete(left, best, best+1)
	}
	return ids
}

// asks are the calls of one test.
type asks struct{ *testing.T }

// ranks asks whether Order and First answer these Ids.
func (a asks) ranks(seed uint64, key []byte, list []rank.Entry, want []int) {
	a.Helper()
	if ids := rank.Order(seed, key, list...); !slices.Equal(ids, want) {
		a.Fatalf("Order %d %x %d: %d, not %d", seed, key, list, ids, want)
	}
	first := 0
	if len(want) > 0 {
		first = want[0]
	}
	if id, ok := rank.First(seed, key, list...); id != first || ok != (len(want) > 0) {
		a.Fatalf("First %d %x %d: %d %v, not %d", seed, key, list, id, ok, want)
	}
}

// first gives the first Id of a list that has one.
func (a asks) first(seed uint64, key []byte, list []rank.Entry) int {
	a.Helper()
	id, ok := rank.First(seed, key, list...)
	if !ok {
		a.Fatal("none", seed, key, list)
	}
	return id
}

// P23.1: the chapter's example: a single entry is always the first.
func TestSingle(t *testing.T) {
	d := draw(1)
	for id := range 64 {
		for weight := 1; weight <= 16; weight++ {
			list := []rank.Entry{{Id: id, Weight: weight}}
			asks{t}.ranks(seeds[weight%len(seeds)], d.bytes(id), list, []int{id})
		}
		keys := d.keys(30)
		if m := rank.Chosen(uint64(id), keys, rank.Entry{Id: id, Weight: 1 + id%16}); !maps.Equal(m, map[int]int{id: 30}) {
			t.Error(id, m)
		}
	}
}

// P23.1: scores that were worked out from the chapters' words alone.
func TestKnownScores(t *testing.T) {
	for i, c := range []struct {
		seed uint64
		key  string
		e    rank.Entry
		want uint64
	}{
		{0, "", rank.Entry{Id: 0, Weight: 1}, 0xc3ad204be90d4563},
		{0, "", rank.Entry{Id: 0, Weight: 16}, 0xf4fffa71d36fe1ed},
		{0, "", rank.Entry{Id: 63, Weight: 1}, 0xa88580e2ca9b64d5},
		{5, "\t\b", rank.Entry{Id: 63, Weight: 2}, 0xe1cc9b984e8dbe5f},
		{5, "\t\b", rank.Entry{Id: 7, Weight: 16}, 0xdf5ad5e5c7cd5930},
		{math.MaxUint64, "\x01\x02\x03", rank.Entry{Id: 1, Weight: 1}, 0x76c6334779655065},
		{1 << 63, "client", rank.Entry{Id: 40, Weight: 5}, 0x7b1bbf2e7d754f47},
		{14695981039346656037, "", rank.Entry{Id: 0, Weight: 3}, 0xf8065ae1181c72db},
	} {
		if s, ok := rank.Score(c.seed, []byte(c.key), c.e); s != c.want || !ok {
			t.Errorf("%d: %#x %v", i, s, ok)
		}
	}
}

// P23.1: orders that were worked out from the chapters' words alone.
func TestKnownOrders(t *testing.T) {
	five := []rank.Entry{{Id: 3, Weight: 1}, {Id: 9, Weight: 4}, {Id: 40, Weight: 2}, {Id: 63, Weight: 16}, {Id: 0, Weight: 1}}
	var eight, all []rank.Entry
	for id := range 64 {
		if id < 8 {
			eight = append(eight, rank.Entry{Id: id, Weight: 1})
		}
		all = append(all, rank.Entry{Id: id, Weight: id%16 + 1})
	}
	for _, c := range []struct {
		seed uint64
		key  string
		list []rank.Entry
		want []int
	}{
		{0, "", five, []int{63, 40, 0, 9, 3}},
		{0, "", eight, []int{0, 7, 5, 4, 1, 2, 6, 3}},
		{1, "\a", five, []int{63, 0, 9, 40, 3}},
		{1, "\a", eight, []int{0, 6, 4, 5, 7, 1, 2, 3}},
		{99, "client", five, []int{63, 9, 0, 3, 40}},
		{99, "client", eight, []int{2, 7, 6, 0, 4, 3, 5, 1}},
		{99, "client", all, []int{62, 15, 63, 3, 60, 30, 13, 59, 20, 9, 26, 58, 24, 56, 47, 38, 10, 28, 55, 46, 14, 25, 43, 12, 44, 27, 29, 54, 40, 2, 11, 57, 8, 33, 35, 61, 42, 51, 19, 41, 53, 31, 5, 21, 39, 52, 7, 37, 36, 45, 23, 6, 22, 4, 16, 50, 17, 0, 34, 18, 49, 1, 32, 48}},
	} {
		asks{t}.ranks(c.seed, []byte(c.key), c.list, c.want)
	}
}

// P23.1: Score of each Id and Weight within the bounds.
func TestScore(t *testing.T) {
	d := draw(2)
	for _, seed := range seeds {
		for id := range 64 {
			key := d.bytes(d.below(40))
			last := uint64(0)
			for weight := 1; weight <= 16; weight++ {
				e := rank.Entry{Id: id, Weight: weight}
				s, ok := rank.Score(seed, key, e)
				if s != score(seed, key, e) || !ok {
					t.Fatal(seed, key, e, s, ok)
				}
				if s < last {
					t.Error("a greater weight has a lower score", seed, key, e)
				}
				last = s
			}
		}
	}
	long := d.bytes(70000)
	for _, key := range [][]byte{nil, {}, {0}, {0, 0}, long[:255], long[:256], long[:65535], long[:65536], long} {
		e := rank.Entry{Id: len(key) % 64, Weight: 4}
		if s, ok := rank.Score(7, key, e); s != score(7, key, e) || !ok {
			t.Error(len(key), s, ok)
		}
	}
	none, _ := rank.Score(7, nil, rank.Entry{Weight: 1})
	empty, _ := rank.Score(7, []byte{}, rank.Entry{Weight: 1})
	zero, _ := rank.Score(7, []byte{0}, rank.Entry{Weight: 1})
	if none != empty || none == zero {
		t.Error(none, empty, zero)
	}
}

// P23.1: no score if the Id or the Weight is out of bounds.
func TestScoreBounds(t *testing.T) {
	check := func(e rank.Entry) {
		t.Helper()
		if s, ok := rank.Score(5, []byte{1}, e); s != 0 || ok {
			t.Error(e, s, ok)
		}
		asks{t}.ranks(5, []byte{1}, []rank.Entry{e}, nil)
		if m := rank.Chosen(5, [][]byte{{1}, nil}, e); len(m) != 0 {
			t.Error(e, m)
		}
	}
	for _, n := range beyond {
		for _, weight := range append([]int{0, 1, 2, 16, 17}, beyond...) {
			check(rank.Entry{Id: n, Weight: weight})
		}
		for _, id := range []int{0, 1, 63} {
			check(rank.Entry{Id: id, Weight: n})
			check(rank.Entry{Id: id, Weight: 0})
			check(rank.Entry{Id: id, Weight: 17})
		}
	}
	check(rank.Entry{})
}

// P23.1: Order and First of lists of any length, with entries that are ignored and without.
func TestOrder(t *testing.T) {
	d := draw(3)
	for n := range 65 {
		seed, key := seeds[n%len(seeds)], d.bytes(d.below(30))
		list := d.distinct(n)
		want := order(seed, key, list)
		if len(want) != n {
			t.Fatal(n, want)
		}
		asks{t}.ranks(seed, key, list, want)
	}
	for n := range 150 {
		seed, key := uint64(d.below(1000)), d.bytes(d.below(30))
		list := d.mixed(n)
		asks{t}.ranks(seed, key, list, order(seed, key, list))
	}
	asks{t}.ranks(0, nil, nil, nil)
	asks{t}.ranks(0, []byte{1}, []rank.Entry{}, nil)
}

// P23.1: an entry whose Id an earlier one has is ignored; one that is ignored hides no later one.
func TestTwice(t *testing.T) {
	d := draw(4)
	for k := range 300 {
		seed, key := uint64(k), d.bytes(k%9)
		for _, pair := range [][2]int{{1, 16}, {16, 1}, {5, 5}, {2, 3}} {
			other := rank.Entry{Id: 20, Weight: 8}
			list := []rank.Entry{{Id: 7, Weight: pair[0]}, other, {Id: 7, Weight: pair[1]}, {Id: 7, Weight: pair[0]}}
			asks{t}.ranks(seed, key, list, rank.Order(seed, key, list[:2]...))
			asks{t}.ranks(seed, key, list, order(seed, key, list[:2]))
			for _, weight := range []int{0, 17, -1, math.MaxInt} {
				behind := append([]rank.Entry{{Id: 7, Weight: weight}, {Id: -1, Weight: pair[1]}}, list...)
				asks{t}.ranks(seed, key, behind, order(seed, key, list[:2]))
			}
		}
	}
}

// P23.1: the score that counts is that of the earlier entry, not of the greater one.
func TestTwiceFirst(t *testing.T) {
	changed := 0
	for k := range 200 {
		key := []byte{byte(k)}
		light, heavy, other := rank.Entry{Id: 1, Weight: 1}, rank.Entry{Id: 1, Weight: 16}, rank.Entry{Id: 2, Weight: 4}
		a := asks{t}.first(0, key, []rank.Entry{light, other, heavy})
		b := asks{t}.first(0, key, []rank.Entry{heavy, other, light})
		if a != (asks{t}).first(0, key, []rank.Entry{light, other}) || b != (asks{t}).first(0, key, []rank.Entry{heavy, other}) {
			t.Error(k, a, b)
		}
		if a != b {
			changed++
		}
	}
	if changed == 0 {
		t.Error("both orders always give the same: nothing was asked")
	}
}

// P23.1: Chosen counts the keys of which each Id is the first one.
func TestChosen(t *testing.T) {
	d := draw(5)
	for n := range 90 {
		list := d.mixed(n)
		if n%3 == 0 {
			list = d.distinct(n % 65)
		}
		keys := d.keys(d.below(60))
		for range d.below(5) {
			keys = append(keys, []byte{9, 9}, nil) // the same key once more
		}
		want := map[int]int{}
		for _, key := range keys {
			if ids := order(uint64(n), key, list); len(ids) > 0 {
				want[ids[0]]++
			}
		}
		if m := rank.Chosen(uint64(n), keys, list...); !maps.Equal(m, want) {
			t.Fatal(n, m, want)
		}
	}
}

// P23.1: Chosen has no Id without a key.
func TestChosenNone(t *testing.T) {
	list := []rank.Entry{{Id: 1, Weight: 1}, {Id: 2, Weight: 16}, {Id: 3}}
	for i, m := range []map[int]int{
		rank.Chosen(0, nil, list...), rank.Chosen(0, [][]byte{}, list...),
		rank.Chosen(0, [][]byte{nil, {1}}), rank.Chosen(0, [][]byte{nil, {1}}, rank.Entry{Id: 64, Weight: 1}, rank.Entry{Id: 1, Weight: 17}),
		rank.Chosen(0, nil),
	} {
		if len(m) != 0 {
			t.Error(i, m)
		}
	}
	key := []byte{4}
	id := asks{t}.first(9, key, list)
	if m := rank.Chosen(9, [][]byte{key, key, key}, list...); !maps.Equal(m, map[int]int{id: 3}) {
		t.Error(m)
	}
	if m := rank.Chosen(9, [][]byte{nil, {}, nil}, list...); len(m) != 1 || m[asks{t}.first(9, nil, list)] != 3 {
		t.Error(m)
	}
}

// P23.1: each Id gets about its weight's share of many keys.
func TestShares(t *testing.T) {
	var list []rank.Entry
	sum := 0
	for id := range 12 {
		e := rank.Entry{Id: id * 5, Weight: 1 + id*15/11}
		sum += e.Weight
		list = append(list, e)
	}
	var keys [][]byte
	for k := range 20000 {
		keys = append(keys, []byte{byte(k >> 8), byte(k)})
	}
	m := rank.Chosen(11, keys, list...)
	all := 0
	for _, e := range list {
		share := len(keys) * e.Weight / sum
		if m[e.Id] < share*8/10-20 || m[e.Id] > share*12/10+20 {
			t.Error(e, m[e.Id], share)
		}
		all += m[e.Id]
	}
	if all != len(keys) {
		t.Error(all)
	}
}

// P23.1: a long list is looked through once, however many keys there are.
func TestLong(t *testing.T) {
	d := draw(6)
	list := make([]rank.Entry, 400000)
	for i := range list {
		list[i] = rank.Entry{Id: i % 3, Weight: 1 + i%16}
	}
	list[len(list)-1] = rank.Entry{Id: 50, Weight: 16}
	keys := d.keys(20000)
	short := []rank.Entry{list[0], list[1], list[2], list[len(list)-1]}
	if m, want := rank.Chosen(3, keys, list...), rank.Chosen(3, keys, short...); !maps.Equal(m, want) || len(want) != 4 {
		t.Error(m, want)
	}
	asks{t}.ranks(3, keys[5], list, order(3, keys[5], short))
}

// P23.2: the order of a list in which no Id occurs twice does not matter.
func TestAnyOrder(t *testing.T) {
	d := draw(7)
	for n := range 65 {
		list := d.distinct(n)
		seed, keys := uint64(n), d.keys(20)
		want, chosen := rank.Order(seed, keys[n%20], list...), rank.Chosen(seed, keys, list...)
		for range 10 {
			d.shuffle(list)
			more := slices.Concat([]rank.Entry{{Id: -1, Weight: 1}}, list, []rank.Entry{{Id: 5, Weight: 17}})
			for _, l := range [][]rank.Entry{list, more} {
				asks{t}.ranks(seed, keys[n%20], l, want)
				if m := rank.Chosen(seed, keys, l...); !maps.Equal(m, chosen) {
					t.Fatal(l, m, chosen)
				}
			}
		}
		slices.SortFunc(list, func(a, b rank.Entry) int { return b.Id - a.Id })
		asks{t}.ranks(seed, keys[n%20], list, want)
	}
}

// P23.2: an additional entry becomes the first one, or changes nothing, in front or behind; the others keep their order.
func TestMore(t *testing.T) {
	d := draw(8)
	won := 0
	for n := range 1000 {
		list := d.distinct(1 + n%63 + 1)
		seed, key := uint64(n), d.bytes(n%17)
		fewer, more := list[1:], list[0]
		was, is := asks{t}.first(seed, key, fewer), asks{t}.first(seed, key, list)
		if is != was && is != more.Id {
			t.Error(seed, key, list, was, is)
		}
		if is == more.Id {
			won++
		}
		before, after := rank.Order(seed, key, fewer...), rank.Order(seed, key, list...)
		after = slices.DeleteFunc(after, func(id int) bool { return id == more.Id })
		if !slices.Equal(before, after) {
			t.Error(seed, key, list, before, after)
		}
		asks{t}.ranks(seed, key, append(slices.Clone(fewer), more), rank.Order(seed, key, list...))
	}
	if won == 0 || won == 1000 {
		t.Error("nothing was asked", won)
	}
}

// P23.2: a greater weight makes its entry the first one, or changes nothing.
func TestHeavier(t *testing.T) {
	d := draw(9)
	won := 0
	for n := range 1000 {
		list := d.distinct(2 + n%10)
		seed, key := uint64(n), d.bytes(n%17)
		was := asks{t}.first(seed, key, list)
		at := d.below(len(list))
		for list[at].Weight < 16 {
			list[at].Weight++
			is := asks{t}.first(seed, key, list)
			if is != was && is != list[at].Id {
				t.Error(seed, key, list, was, is)
			}
			if is != was {
				won++
			}
			was = is
		}
	}
	if won == 0 {
		t.Error("nothing was asked")
	}
}

// P23.2: removing an entry changes nothing where it was not the first.
func TestFewer(t *testing.T) {
	d := draw(10)
	for n := range 200 {
		list := d.distinct(2 + n%62)
		seed, keys := uint64(n), d.keys(25)
		gone := list[0].Id
		before, after := rank.Chosen(seed, keys, list...), rank.Chosen(seed, keys, list[1:]...)
		for _, key := range keys {
			was, is := asks{t}.first(seed, key, list), asks{t}.first(seed, key, list[1:])
			if was != gone && is != was || is == gone {
				t.Error(seed, key, list, was, is)
			}
		}
		for id, k := range before {
			if id != gone && after[id] < k {
				t.Error(seed, list, before, after)
			}
		}
		if before[gone] == 0 && !maps.Equal(before, after) {
			t.Error(seed, list, before, after)
		}
	}
}

// P23.2: arguments are not changed, nor is the memory behind them.
func TestArguments(t *testing.T) {
	d := draw(11)
	for n := range 60 {
		list, key, keys := d.mixed(n+20), d.bytes(n+20), d.keys(n+20)
		was, of, all := slices.Clone(list), bytes.Clone(key), fmt.Sprint(keys)
		rank.Order(1, key[:n], list[:n]...)
		rank.First(1, key[:n], list[:n]...)
		rank.Chosen(1, keys[:n], list[:n]...)
		if n > 0 {
			rank.Score(1, key[:n], list[n-1])
		}
		if !slices.Equal(list, was) || !bytes.Equal(key, of) || fmt.Sprint(keys) != all {
			t.Fatal(n)
		}
	}
}

// P23.2: results are new memory, and nothing is kept from call to call.
func TestResults(t *testing.T) {
	d := draw(12)
	list, key, keys := d.distinct(20), d.bytes(9), d.keys(50)
	was, of := slices.Clone(list), bytes.Clone(key)
	ids, again := rank.Order(1, key, list...), rank.Order(1, key, list...)
	m, same := rank.Chosen(1, keys, list...), rank.Chosen(1, keys, list...)
	wantIds, wantCounts := slices.Clone(ids), maps.Clone(m)
	for i := range ids[:cap(ids)] {
		ids[:cap(ids)][i] = -1
	}
	clear(m)
	m[-1] = 7
	if !slices.Equal(again, wantIds) || !maps.Equal(same, wantCounts) || !slices.Equal(list, was) {
		t.Error("shared")
	}
	asks{t}.ranks(1, key, list, wantIds)
	if l := rank.Chosen(1, keys, list...); !maps.Equal(l, wantCounts) {
		t.Error(l)
	}
	for i := range list {
		list[i] = rank.Entry{Id: 63 - i, Weight: 1}
	}
	clear(key)
	if !slices.Equal(again, wantIds) || !maps.Equal(same, wantCounts) {
		t.Error("retained")
	}
	asks{t}.ranks(1, of, was, wantIds)
	asks{t}.ranks(1, key, list, order(1, key, list))
}

// P23.1: calls at once don't touch each other.
func TestAtOnce(t *testing.T) {
	d := draw(13)
	list, keys := d.mixed(80), d.keys(60)
	want, first := order(4, keys[3], list), order(4, keys[5], list)[0]
	counts := rank.Chosen(4, keys, list...)
	var group sync.WaitGroup
	for range 8 {
		group.Go(func() {
			for range 20 {
				if id, ok := rank.First(4, keys[5], list...); id != first || !ok {
					t.Error(id, ok)
				}
				if ids := rank.Order(4, keys[3], list...); !slices.Equal(ids, want) {
					t.Error(ids)
				}
				if m := rank.Chosen(4, keys, list...); !maps.Equal(m, counts) {
					t.Error(m)
				}
			}
		})
	}
	group.Wait()
}
