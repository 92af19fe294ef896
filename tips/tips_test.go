package tips_test

import (
	"cmp"
	"math"
	"math/rand"
	"reflect"
	"slices"
	"testing"

	"trailhead/api"
	"trailhead/arena"
	"trailhead/header"
	"trailhead/pace"
	"trailhead/skip"
	"trailhead/tips"
)

// easiest is the limit of the rules here: every other name meets it.
const easiest = 0x207fffff

// late is a clock by which no header here comes too early.
const late = 1 << 20

// none is no place.
const none = -1

// usual are rules that can be; who takes eleven seconds a block, or more, keeps the easiest bits.
var usual = api.Params{
	Limit: easiest, Interval: 64, Spacing: 10, Future: 100,
	Genesis: api.Header{Version: 1, Time: 50, Bits: easiest},
}

// quick are rules by which the target is set anew every other block: a chain of few that came fast is heavier than one of many that came slowly.
var quick = api.Params{
	Limit: easiest, Interval: 2, Spacing: 10, Future: 100,
	Genesis: api.Header{Version: 1, Time: 50, Bits: easiest},
}

// noPlaces are numbers that are no places of any tree.
var noPlaces = []int{math.MinInt, math.MinInt + 1, -1 << 32, -2, -1, 512, 513, 1 << 32, math.MaxInt - 1, math.MaxInt}

// made: a tree.
func made(t testing.TB, p api.Params, room int) *skip.Tree {
	t.Helper()
	x, e := skip.New(p, room)
	if e != api.OK {
		t.Fatalf("%+v, %d: %d", p, room, e)
	}
	return x
}

// grow: a header more in a tree, behind a place, so many seconds later.
func grow(t testing.TB, x *skip.Tree, ahead, seconds int) {
	t.Helper()
	n := x.Len()
	at, _ := x.At(ahead)
	spot, _ := x.Spot(ahead)
	h := api.Header{Version: 1, Prev: at.Id, Time: at.Header.Time + seconds}
	h.Bits = pace.Next(x.Rules(), spot.Point, h.Time)
	h.Root[0], h.Root[1] = byte(n), byte(n>>8)
	h, found := header.Seek(h, 1<<20)
	if place, why, e := x.Add(h, late); !found || place != n || e != api.OK {
		t.Fatalf("%+v: at %d, %d, %d, not at %d", h, place, why, e, n)
	}
}

// byHand: a line of four behind the genesis, at the places 1 to 4; 5 and 6 branch off behind 2, 7 behind 5, 8 behind the genesis. Heights: 0 1 2 3 4 3 3 4 1.
func byHand(t testing.TB) *skip.Tree {
	t.Helper()
	x := made(t, usual, 50)
	for _, ahead := range []int{0, 1, 2, 3, 2, 2, 5, 0} {
		grow(t, x, ahead, 11)
	}
	return x
}

// model is what a set has, in no order.
type model map[int]struct{}

// put: as Put, of places of a tree that has so many.
func (m model) put(count int, places ...int) int {
	before := len(m)
	for _, at := range places {
		if at >= 0 && at < count {
			m[at] = struct{}{}
		}
	}
	return len(m) - before
}

// drop: as Drop.
func (m model) drop(places ...int) int {
	before := len(m)
	for _, at := range places {
		delete(m, at)
	}
	return before - len(m)
}

// heavier: which of two places of a tree comes first.
func heavier(x *skip.Tree, one, other int) int {
	a, _ := x.At(one)
	b, _ := x.At(other)
	for i := 3; i >= 0; i-- {
		if a.Work[i] != b.Work[i] {
			return cmp.Compare(b.Work[i], a.Work[i])
		}
	}
	return cmp.Compare(one, other)
}

// trim: as Trim.
func (m model) trim(x *skip.Tree, at int) int {
	before := len(m)
	for place := range m {
		if at >= 0 && at < x.Len() && heavier(x, at, place) < 0 {
			delete(m, place)
		}
	}
	return before - len(m)
}

// all: the heaviest first.
func (m model) all(x *skip.Tree) []int {
	var out []int
	for at := range m {
		out = append(out, at)
	}
	slices.SortFunc(out, func(one, other int) int { return heavier(x, one, other) })
	return out
}

// holds: a set must have just these places of a tree of at most so many, in this order.
func holds(t testing.TB, s *tips.Set, count int, want ...int) {
	t.Helper()
	if got := s.All(); !slices.Equal(got, want) {
		t.Fatalf("%d, not %d", got, want)
	}
	best := none
	if len(want) > 0 {
		best = want[0]
	}
	if s.Best() != best || s.Len() != len(want) {
		t.Fatalf("%d of %d, not %d of %d", s.Best(), s.Len(), best, len(want))
	}
	for at := range count {
		if s.Has(at) != slices.Contains(want, at) {
			t.Fatalf("%d: %t, in %d", at, s.Has(at), want)
		}
	}
	for _, at := range noPlaces {
		if s.Has(at) {
			t.Fatalf("%d is in %d", at, want)
		}
	}
}

func TestP15_1NewIsEmpty(t *testing.T) {
	for _, x := range []*skip.Tree{nil, made(t, usual, 1), byHand(t)} {
		s := tips.New(x)
		if s == nil {
			t.Fatal("no set")
		}
		holds(t, s, 20)
		for _, at := range append([]int{0, 1, 8, 9}, noPlaces...) {
			if s.Drop(at) != 0 || s.Trim(at) != 0 {
				t.Errorf("%d went", at)
			}
		}
		if s.Put() != 0 || s.Drop() != 0 || s.Put([]int{}...) != 0 {
			t.Error("nothing is something")
		}
		holds(t, s, 20)
	}
}

func TestP15_1PutByHand(t *testing.T) {
	x := byHand(t)
	for _, c := range []struct {
		first, then []int
		n           int
		want        []int
	}{
		{nil, []int{0}, 1, []int{0}}, {nil, []int{4}, 1, []int{4}}, {nil, []int{8}, 1, []int{8}},
		{nil, []int{0, 1, 2, 3, 4, 5, 6, 7, 8}, 9, []int{4, 7, 3, 5, 6, 2, 1, 8, 0}},
		{nil, []int{8, 7, 6, 5, 4, 3, 2, 1, 0}, 9, []int{4, 7, 3, 5, 6, 2, 1, 8, 0}},
		{nil, []int{6, 5, 3}, 3, []int{3, 5, 6}}, {nil, []int{5, 3, 6}, 3, []int{3, 5, 6}}, {nil, []int{7, 3, 4}, 3, []int{4, 7, 3}},
		{nil, []int{3, 3, 3}, 1, []int{3}}, {nil, []int{3, 5, 3, 5, 3}, 2, []int{3, 5}}, {[]int{3}, []int{3}, 0, []int{3}}, {[]int{3}, []int{5}, 1, []int{3, 5}}, {[]int{5}, []int{3}, 1, []int{3, 5}},
		{[]int{5, 3}, []int{3, 4, 5}, 1, []int{4, 3, 5}}, {[]int{5, 3}, nil, 0, []int{3, 5}}, {[]int{0, 4}, []int{2, 2, 0}, 1, []int{4, 2, 0}},
		{nil, []int{9}, 0, nil}, {nil, []int{-1}, 0, nil}, {nil, noPlaces, 0, nil}, {[]int{2}, noPlaces, 0, []int{2}}, {nil, []int{9, 49, 50, 51}, 0, nil}, // the tree has room for them, but they aren't there
		{nil, []int{-1, 3, 9, 2, math.MaxInt, 8, math.MinInt}, 3, []int{3, 2, 8}}, {[]int{0}, []int{9, 0, 10, 1}, 1, []int{1, 0}},
	} {
		s := tips.New(x)
		s.Put(c.first...)
		if n := s.Put(c.then...); n != c.n {
			t.Errorf("%d, then %d: %d, not %d", c.first, c.then, n, c.n)
		}
		holds(t, s, 60, c.want...)
	}
}

func TestP15_1DropByHand(t *testing.T) {
	x := byHand(t)
	all := []int{4, 7, 3, 5, 6, 2, 1, 8, 0}
	for _, c := range []struct {
		first, then []int
		n           int
		want        []int
	}{
		{all, nil, 0, all}, {all, []int{4}, 1, all[1:]}, {all, []int{0}, 1, all[:8]}, {all, []int{3}, 1, []int{4, 7, 5, 6, 2, 1, 8, 0}}, {all, all, 9, nil},
		{all, []int{8, 0, 4, 2}, 4, []int{7, 3, 5, 6, 1}}, {all, []int{2, 2, 2}, 1, []int{4, 7, 3, 5, 6, 1, 8, 0}}, {all, []int{2, 4, 2, 4}, 2, []int{7, 3, 5, 6, 1, 8, 0}},
		{all, noPlaces, 0, all}, {all, []int{9, 10, 49}, 0, all}, {all, []int{-1, 5, 9, 0, math.MaxInt}, 2, []int{4, 7, 3, 6, 2, 1, 8}},
		{nil, all, 0, nil}, {[]int{3}, []int{5, 6, 4, 2, 0}, 0, []int{3}}, {[]int{3, 6}, []int{5}, 0, []int{3, 6}}, {[]int{3, 6}, []int{6, 5, 3}, 2, nil},
	} {
		s := tips.New(x)
		s.Put(c.first...)
		if n := s.Drop(c.then...); n != c.n {
			t.Errorf("%d, then %d: %d, not %d", c.first, c.then, n, c.n)
		}
		holds(t, s, 60, c.want...)
		if n := s.Put(c.first...); n != c.n { // they may come back
			t.Errorf("%d, then %d: %d came back, not %d", c.first, c.then, n, c.n)
		}
		holds(t, s, 60, c.first...)
	}
}

func TestP15_1TrimByHand(t *testing.T) {
	x := byHand(t)
	all := []int{4, 7, 3, 5, 6, 2, 1, 8, 0}
	for _, c := range []struct {
		first []int
		at    int
		n     int
		want  []int
	}{
		{all, 4, 8, []int{4}}, {all, 7, 7, []int{4, 7}}, {all, 3, 6, []int{4, 7, 3}}, {all, 5, 5, []int{4, 7, 3, 5}}, {all, 6, 4, []int{4, 7, 3, 5, 6}},
		{all, 2, 3, []int{4, 7, 3, 5, 6, 2}}, {all, 1, 2, []int{4, 7, 3, 5, 6, 2, 1}}, {all, 8, 1, []int{4, 7, 3, 5, 6, 2, 1, 8}}, {all, 0, 0, all},
		{all, -1, 0, all}, {all, 9, 0, all}, {all, 49, 0, all}, {all, 50, 0, all}, {all, 512, 0, all}, {all, math.MinInt, 0, all}, {all, math.MaxInt, 0, all},
		{[]int{7, 6, 1}, 4, 3, nil}, {[]int{7, 6, 1}, 3, 2, []int{7}}, {[]int{7, 6, 1}, 5, 2, []int{7}}, {[]int{7, 6, 1}, 2, 1, []int{7, 6}}, {[]int{7, 6, 1}, 8, 0, []int{7, 6, 1}}, {[]int{7, 6, 1}, 0, 0, []int{7, 6, 1}}, // the place needn't be in the set
		{[]int{3}, 5, 0, []int{3}}, {[]int{5}, 3, 1, nil}, {[]int{0}, 0, 0, []int{0}}, {[]int{0}, 8, 1, nil}, {nil, 4, 0, nil}, {nil, 0, 0, nil},
	} {
		s := tips.New(x)
		s.Put(c.first...)
		if n := s.Trim(c.at); n != c.n {
			t.Errorf("%d, then %d: %d, not %d", c.first, c.at, n, c.n)
		}
		holds(t, s, 60, c.want...)
		if n := s.Trim(c.at); n != 0 {
			t.Errorf("%d, then %d twice: %d", c.first, c.at, n)
		}
		if n := s.Put(c.first...); n != c.n {
			t.Errorf("%d, then %d: %d came back, not %d", c.first, c.at, n, c.n)
		}
		holds(t, s, 60, c.first...)
	}
}

func TestP15_1WorkCountsNotHeight(t *testing.T) {
	x := made(t, quick, 50)
	for _, ahead := range []int{0, 1, 2, 3, 4, 5} { // 1 to 6: six slow ones
		grow(t, x, ahead, 20)
	}
	grow(t, x, 0, 1)
	grow(t, x, 7, 1) // 8: the second one of two fast ones, at the first height with harder bits: 2 + 2 + 8 tries
	grow(t, x, 8, 1) // 9: 20 tries
	works := []uint64{2, 4, 6, 8, 10, 12, 14, 4, 12, 20}
	for at, want := range works {
		if got, _ := x.At(at); got.Work != (api.Num{want}) {
			t.Fatalf("%d: %d, not %d", at, got.Work, want)
		}
	}
	s := tips.New(x)
	if s.Put(0, 1, 2, 3, 4, 5, 6, 7, 8, 9) != 10 {
		t.Error("not all are there")
	}
	holds(t, s, 60, 9, 6, 5, 8, 4, 3, 2, 1, 7, 0)
	if s.Trim(8) != 6 {
		t.Error("not six went")
	}
	holds(t, s, 60, 9, 6, 5, 8)
	if s.Trim(6) != 2 || s.Put(8, 5) != 2 || s.Drop(9) != 1 {
		t.Errorf("%d", s.All())
	}
	holds(t, s, 60, 6, 5, 8)
}

func TestP15_1TheTreeGrows(t *testing.T) {
	x := made(t, usual, 50)
	s := tips.New(x)
	if s.Put(0, 1, 2) != 1 || s.Trim(1) != 0 {
		t.Errorf("%d", s.All())
	}
	grow(t, x, 0, 11)
	holds(t, s, 60, 0) // 1 was asked for too early, and doesn't come by itself
	if s.Trim(1) != 1 || s.Put(1, 0, 2) != 2 {
		t.Errorf("%d", s.All())
	}
	holds(t, s, 60, 1, 0)
	grow(t, x, 0, 11)
	grow(t, x, 2, 11)
	holds(t, s, 60, 1, 0)
	if s.Put(2) != 1 || s.Put(2) != 0 {
		t.Errorf("%d", s.All())
	}
	holds(t, s, 60, 1, 2, 0)
	if s.Put(3, 4) != 1 {
		t.Errorf("%d", s.All())
	}
	holds(t, s, 60, 3, 1, 2, 0)
	if s.Drop(1) != 1 {
		t.Errorf("%d", s.All())
	}
	grow(t, x, 1, 11)
	if s.Put(4) != 1 {
		t.Errorf("%d", s.All())
	}
	holds(t, s, 60, 3, 4, 2, 0)
	if s.Trim(1) != 2 {
		t.Errorf("%d", s.All())
	}
	holds(t, s, 60, 3, 4)
}

func TestP15_1JustTheGenesis(t *testing.T) {
	s := tips.New(made(t, usual, 1))
	if s.Put(0) != 1 || s.Best() != 0 || s.Put(0, 1) != 0 || s.Trim(1) != 0 || s.Trim(0) != 0 || s.Drop(1) != 0 {
		t.Errorf("%d", s.All())
	}
	holds(t, s, 20, 0)
	if s.Drop(0) != 1 || s.Drop(0) != 0 {
		t.Errorf("%d", s.All())
	}
	holds(t, s, 20)
}

func TestP15_1NilSet(t *testing.T) {
	var s *tips.Set
	of := tips.New(nil)
	for _, at := range append([]int{0, 1, 2}, noPlaces...) {
		if s.Put(at) != 0 || s.Put(at, 0, at) != 0 || s.Drop(at) != 0 || s.Drop(at, at) != 0 || s.Trim(at) != 0 {
			t.Errorf("%d", at)
		}
		if of.Put(at) != 0 || of.Put(at, 0, at) != 0 || of.Drop(at) != 0 || of.Drop(at, at) != 0 || of.Trim(at) != 0 {
			t.Errorf("%d, of a nil tree", at)
		}
	}
	if s.Put() != 0 || s.Drop() != 0 {
		t.Error("nothing is something")
	}
	holds(t, s, 20)
	holds(t, of, 20)
}

// anyPlaces: some places of a tree, and some that aren't there, at random, some of them twice.
func anyPlaces(r *rand.Rand, count int) []int {
	out := make([]int, r.Intn(6))
	for i := range out {
		switch r.Intn(12) {
		case 0:
			out[i] = noPlaces[r.Intn(len(noPlaces))]
		case 1:
			out[i] = count + r.Intn(3)
		case 2:
			out[i] = out[r.Intn(len(out))]
		default:
			out[i] = r.Intn(count)
		}
	}
	return out
}

// step: one deed to a set and its model, at random; both must answer alike.
func step(t testing.TB, r *rand.Rand, x *skip.Tree, s *tips.Set, m model) {
	t.Helper()
	places := anyPlaces(r, x.Len())
	same := slices.Clone(places)
	var got, want int
	switch r.Intn(10) {
	case 0, 1, 2, 3, 4:
		got, want = s.Put(places...), m.put(x.Len(), places...)
	case 5, 6, 7:
		got, want = s.Drop(places...), m.drop(places...)
	case 8:
		for _, at := range places {
			if r.Intn(4) == 0 {
				got += s.Trim(at)
				want += m.trim(x, at)
			}
		}
	case 9:
		at := none
		if all := m.all(x); len(all) > 0 {
			at = all[len(all)-1-r.Intn(min(len(all), 3))]
		}
		got, want = s.Trim(at), m.trim(x, at)
	}
	if got != want || !slices.Equal(places, same) {
		t.Fatalf("%d: %d, not %d", places, got, want)
	}
}

func TestP15_1AnyOrder(t *testing.T) {
	for seed := range int64(24) {
		r := rand.New(rand.NewSource(150 + seed))
		p := usual
		if seed%2 == 0 {
			p = quick
		}
		x := made(t, p, 40)
		s, m := tips.New(x), model{}
		other, n := tips.New(x), model{} // of the same tree
		for range 600 {
			if r.Intn(10) == 0 && x.Len() < x.Room() {
				ahead, seconds := r.Intn(x.Len()), 11
				if seed%2 == 0 {
					seconds = 1 + r.Intn(40)
				}
				if spot, _ := x.Spot(ahead); spot.Bits>>24 > 0x1e {
					grow(t, x, ahead, seconds)
				}
			}
			step(t, r, x, s, m)
			holds(t, s, 50, m.all(x)...)
			if r.Intn(3) == 0 {
				step(t, r, x, other, n)
			}
			holds(t, other, 50, n.all(x)...)
		}
	}
}

func TestP15_1ALargeSet(t *testing.T) {
	r := rand.New(rand.NewSource(15))
	x := made(t, usual, api.MaxStored)
	for n := 1; n < api.MaxStored; n++ {
		grow(t, x, max(r.Intn(n), r.Intn(n), r.Intn(n)), 11)
	}
	s, m := tips.New(x), model{}
	for _, at := range r.Perm(api.MaxStored) {
		if s.Put(at) != 1 || s.Put(at) != 0 {
			t.Fatalf("%d: %d", at, s.Len())
		}
	}
	m.put(api.MaxStored, r.Perm(api.MaxStored)...)
	all := m.all(x)
	holds(t, s, 600, all...)
	for _, n := range []int{500, 300, 301, 10, 0} {
		if got, want := s.Trim(all[n]), m.trim(x, all[n]); got != want {
			t.Fatalf("%d: %d, not %d", n, got, want)
		}
		holds(t, s, 600, m.all(x)...)
	}
	once := tips.New(x)
	if once.Put(r.Perm(600)...) != api.MaxStored {
		t.Errorf("%d", once.Len())
	}
	holds(t, once, 600, all...)
	if once.Drop(r.Perm(600)...) != api.MaxStored {
		t.Errorf("%d", once.Len())
	}
	holds(t, once, 600)
}

func TestP15_1WhatIsHandedInStaysAndIsntKept(t *testing.T) {
	x := byHand(t)
	var before []arena.Entry
	for at := range x.Len() {
		entry, _ := x.At(at)
		before = append(before, entry)
	}
	s := tips.New(x)
	places := []int{6, 3, 5, 3, 9, -1, 1, 7}
	same := slices.Clone(places)
	if s.Put(places[:5]...) != 3 || !slices.Equal(places, same) {
		t.Errorf("%d", places)
	}
	clear(places)
	holds(t, s, 60, 3, 5, 6)
	copy(places, same)
	if s.Drop(places[1:6]...) != 2 || s.Trim(6) != 0 || !slices.Equal(places, same) {
		t.Errorf("%d", places)
	}
	holds(t, s, 60, 6)
	for at, want := range before {
		if got, _ := x.At(at); got != want {
			t.Errorf("at %d: %+v", at, got)
		}
	}
	if x.Len() != 9 || !reflect.DeepEqual(x.Rules(), usual) {
		t.Errorf("%d stored", x.Len())
	}
}

func TestP15_1WhatIsToldIsNew(t *testing.T) {
	s := tips.New(byHand(t))
	s.Put(6, 3, 5, 4)
	for range 2 {
		all := s.All()
		holds(t, s, 60, 4, 3, 5, 6)
		all = all[:cap(all)]
		for i := range all {
			all[i] = 2
		}
	}
	all := s.All()
	s.Put(7, 0)
	s.Drop(3)
	s.Trim(5)
	if !slices.Equal(all, []int{4, 3, 5, 6}) {
		t.Errorf("%d", all)
	}
	holds(t, s, 60, 4, 7, 5)
}

func TestP15_1TwoSetsKnowNothingOfOneAnother(t *testing.T) {
	x := byHand(t)
	s, other, far := tips.New(x), tips.New(x), tips.New(made(t, usual, 1))
	if s.Put(1, 2, 3) != 3 || other.Put(3, 5) != 2 || far.Put(0, 1, 2, 3) != 1 {
		t.Errorf("%d, %d, %d", s.All(), other.All(), far.All())
	}
	s.Trim(2)
	other.Drop(3)
	holds(t, s, 60, 3, 2)
	holds(t, other, 60, 5)
	holds(t, far, 60, 0)
}
