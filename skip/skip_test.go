package skip_test

import (
	"maps"
	"math"
	"math/rand"
	"reflect"
	"slices"
	"strconv"
	"strings"
	"testing"

	"trailhead/api"
	"trailhead/arena"
	"trailhead/header"
	"trailhead/rule"
	"trailhead/skip"
)

// easiest is the limit of the rules here: every other name meets it.
const easiest = 0x207fffff

// late is a clock by which no header here comes too early.
const late = 1 << 20

// usual are rules that can be; who takes eleven seconds a block, or more, keeps the easiest bits.
var usual = api.Params{
	Limit: easiest, Interval: 64, Spacing: 10, Future: 100,
	Genesis: api.Header{Version: 1, Time: 50, Bits: easiest},
}

// noPlaces are numbers that are no places, nor heights, of any tree.
var noPlaces = []int{math.MinInt, math.MinInt + 1, -1 << 32, -2, -1, 512, 513, 1 << 32, math.MaxInt - 1, math.MaxInt}

// with: the usual rules with something changed.
func with(change func(p *api.Params)) api.Params {
	p := usual
	change(&p)
	return p
}

// mined: a header whose name meets its target, by its number.
func mined(t testing.TB, h api.Header) api.Header {
	t.Helper()
	out, found := header.Seek(h, 1<<16)
	if !found {
		t.Fatalf("no number for %+v", h)
	}
	return out
}

// unmined: a header whose name doesn't meet its target, by its number.
func unmined(h api.Header) api.Header {
	for {
		if _, found := header.Seek(h, 1); !found {
			return h
		}
		h.Nonce++
	}
}

// behind: a header with the easiest bits behind another one, so many seconds later; its root by a number.
func behind(t testing.TB, ahead api.Header, seconds, root int) api.Header {
	t.Helper()
	h := api.Header{Version: 1, Prev: header.Id(ahead), Time: ahead.Time + seconds, Bits: easiest}
	h.Root[0], h.Root[1] = byte(root), byte(root>>8)
	return mined(t, h)
}

// made: a tree.
func made(t testing.TB, p api.Params, room int) *skip.Tree {
	t.Helper()
	x, e := skip.New(p, room)
	if e != api.OK || x == nil {
		t.Fatalf("%+v, %d: %d", p, room, e)
	}
	return x
}

// stores: a header is given to a tree, and must be stored at a place.
func stores(t testing.TB, x *skip.Tree, h api.Header, place int) {
	t.Helper()
	if at, why, e := x.Add(h, late); at != place || why != rule.Fine || e != api.OK {
		t.Fatalf("%+v: at %d, %d, %d, not at %d", h, at, why, e, place)
	}
}

// model is a tree that knows all ways to the genesis whole.
type model struct {
	headers []api.Header
	ways    [][]int // of each place those from the genesis on to itself
}

func newModel() *model {
	return &model{headers: []api.Header{usual.Genesis}, ways: [][]int{{0}}}
}

// ancestor: the place at a height ahead of one, or itself; -1.
func (m *model) ancestor(at, height int) int {
	if at < 0 || at >= len(m.ways) || height < 0 || height >= len(m.ways[at]) {
		return -1
	}
	return m.ways[at][height]
}

// common: the last place that is on all ways; -1.
func (m *model) common(places ...int) int {
	for _, at := range places {
		if at < 0 || at >= len(m.ways) {
			return -1
		}
	}
	if len(places) == 0 {
		return -1
	}
	out := -1
	for height, place := range m.ways[places[0]] {
		for _, at := range places {
			if m.ancestor(at, height) != place {
				return out
			}
		}
		out = place
	}
	return out
}

// within: whether one place is on the way to another one.
func (m *model) within(at, of int) bool {
	return of >= 0 && of < len(m.ways) && slices.Contains(m.ways[of], at)
}

// path: the way to a place, but for the genesis.
func (m *model) path(at int) []int {
	if at < 0 || at >= len(m.ways) {
		return nil
	}
	return m.ways[at][1:]
}

// shapes: for the header that comes as so many a one behind which of those that are there it stands.
var shapes = map[string]func(r *rand.Rand, n int) int{
	"a line": func(r *rand.Rand, n int) int { return n - 1 },
	"a star": func(r *rand.Rand, n int) int { return 0 },
	"a comb": func(r *rand.Rand, n int) int { return n - 1 - (n+1)%2 },
	"two lines": func(r *rand.Rand, n int) int {
		return max(n-2, 0)
	},
	"two lines that part late": func(r *rand.Rand, n int) int {
		if n <= 70 {
			return n - 1
		}
		return n - 2
	},
	"a line with branches": func(r *rand.Rand, n int) int {
		if r.Intn(12) == 0 {
			return r.Intn(n)
		}
		return n - 1
	},
	"a high bush": func(r *rand.Rand, n int) int { return n - 1 - min(r.Intn(n), r.Intn(n), r.Intn(n), r.Intn(n)) },
	"a low bush":  func(r *rand.Rand, n int) int { return r.Intn(n) },
}

// grow: a header more in a tree and its model; one that is there, and others that are refused, come in between.
func grow(t testing.TB, r *rand.Rand, x *skip.Tree, m *model, ahead int) {
	t.Helper()
	n := len(m.headers)
	known := r.Intn(n)
	stores(t, x, m.headers[known], known)
	h := behind(t, m.headers[ahead], 11+r.Intn(4), n)
	alien := h
	alien.Prev[r.Intn(32)] ^= 1
	for why, wrong := range map[rule.Reason]api.Header{rule.Elsewhere: mined(t, alien), rule.NoWork: unmined(h)} {
		if at, got, e := x.Add(wrong, late); at != -1 || got != why || e == api.OK {
			t.Fatalf("%+v: at %d, %d, %d", wrong, at, got, e)
		}
	}
	if at, why, e := x.Add(h, -late); at != -1 || why != rule.TooNew || e != api.ErrRule {
		t.Fatalf("%+v: at %d, %d, %d", h, at, why, e)
	}
	stores(t, x, h, n)
	m.headers = append(m.headers, h)
	m.ways = append(m.ways, append(slices.Clone(m.ways[ahead]), n))
}

// grown: a tree of a shape, and its model.
func grown(t testing.TB, r *rand.Rand, shape string, count int) (*skip.Tree, *model) {
	t.Helper()
	x, m := made(t, usual, count), newModel()
	for n := 1; n < count; n++ {
		grow(t, r, x, m, shapes[shape](r, n))
	}
	return x, m
}

// sameOf: a tree must tell what its model does of a place, by every height.
func sameOf(t testing.TB, x *skip.Tree, m *model, at int) {
	t.Helper()
	for height := -2; height <= len(m.ways)+1; height++ {
		if got, want := x.Ancestor(at, height), m.ancestor(at, height); got != want {
			t.Fatalf("ahead of %d at %d: %d, not %d", at, height, got, want)
		}
	}
	for _, height := range noPlaces {
		if got, want := x.Ancestor(at, height), m.ancestor(at, height); got != want {
			t.Fatalf("ahead of %d at %d: %d, not %d", at, height, got, want)
		}
	}
	if got, want := x.Path(at), m.path(at); !slices.Equal(got, want) {
		t.Fatalf("to %d: %d, not %d", at, got, want)
	}
	if got, want := x.Common(at), m.common(at); got != want {
		t.Fatalf("common to %d: %d, not %d", at, got, want)
	}
}

// sameOfTwo: a tree must tell what its model does of two places.
func sameOfTwo(t testing.TB, x *skip.Tree, m *model, at, of int) {
	t.Helper()
	if got, want := x.Within(at, of), m.within(at, of); got != want {
		t.Fatalf("%d within %d: %v, not %v", at, of, got, want)
	}
	if got, want := x.Common(at, of), m.common(at, of); got != want {
		t.Fatalf("common to %d, %d: %d, not %d", at, of, got, want)
	}
}

func TestP13_1HeightByHand(t *testing.T) {
	for h, want := range map[int]int{
		0: 0, 1: 0, 2: 0, 3: 1, 4: 0, 5: 1, 6: 4, 7: 1, 8: 0, 9: 1, 10: 8, 11: 1, 12: 8, 13: 1, 14: 12, 15: 9,
		16: 0, 17: 1, 18: 16, 22: 20, 23: 17, 24: 16, 25: 1, 29: 17, 31: 25, 100: 96, 255: 249, 256: 0, 257: 1, 510: 508, 511: 505,
		-1: 0, -2: 0, -3: 0, -4: 0, math.MinInt: 0, math.MinInt + 1: 0, -1 << 32: 0,
		math.MaxInt: math.MaxInt - 6, math.MaxInt - 1: math.MaxInt - 3, 1 << 62: 0, 1<<62 + 1: 1, 3 << 61: 1 << 62, 3<<61 + 1: 1,
	} {
		if got := skip.Height(h); got != want {
			t.Errorf("%d: %d, not %d", h, got, want)
		}
	}
}

// lower: a number without its lowest bit, by its digits.
func lower(t testing.TB, h int) int {
	digits := strconv.FormatInt(int64(h), 2)
	if last := strings.LastIndex(digits, "1"); last >= 0 {
		digits = digits[:last] + "0" + digits[last+1:]
	}
	out, err := strconv.ParseInt(digits, 2, 64)
	if err != nil {
		t.Fatal(err)
	}
	return int(out)
}

func TestP13_1HeightByDigits(t *testing.T) {
	var heights []int
	for h := range 3000 {
		heights = append(heights, h, -h)
	}
	for bit := range 63 {
		for d := -5; d <= 5; d++ {
			heights = append(heights, 1<<bit+d, 1<<bit+1<<(bit/2)+d)
		}
	}
	r := rand.New(rand.NewSource(131))
	for range 3000 {
		heights = append(heights, int(r.Uint64()), int(r.Uint64()>>r.Intn(64)))
	}
	for _, h := range heights {
		want := 0
		switch {
		case h < 2:
		case h%2 == 0:
			want = lower(t, h)
		default:
			want = lower(t, lower(t, h-1)) + 1
		}
		if got := skip.Height(h); got != want {
			t.Errorf("%d: %d, not %d", h, got, want)
		}
	}
}

func TestP13_1NewAsTheArena(t *testing.T) {
	for i, p := range []api.Params{
		usual, {},
		with(func(p *api.Params) { p.Limit = 0 }),
		with(func(p *api.Params) { p.Interval = 1 }),
		with(func(p *api.Params) { p.Interval = 65 }),
		with(func(p *api.Params) { p.Genesis.Time = -1 }),
		with(func(p *api.Params) { p.Genesis = api.Header{} }),
		with(func(p *api.Params) { p.Gates = []api.Gate{{Height: 2}, {Height: 2}} }),
		with(func(p *api.Params) { p.Gates = []api.Gate{{Height: 0, Version: 2}, {Height: 2, Version: 3}} }),
		with(func(p *api.Params) { p.Checks = []api.Check{{Height: 0}} }),
		with(func(p *api.Params) { p.Checks = []api.Check{{Height: 1}} }),
		with(func(p *api.Params) { p.Easy, p.MinWork, p.Margin = true, api.Num{1, 2, 3, 4}, api.Num{5, 6, 7, 8} }),
	} {
		for _, room := range []int{math.MinInt, -1, 0, 1, 2, 100, 511, 512, 513, math.MaxInt} {
			x, e := skip.New(p, room)
			a, wantError := arena.New(p, room)
			if e != wantError || (x == nil) != (e != api.OK) || (e == api.OK) != rule.Good(p) {
				t.Errorf("%d, room %d: %v, %d", i, room, x, e)
			}
			if x == nil {
				continue
			}
			sameAsArena(t, x, a)
			if x.Len() != 1 || x.Room() != min(max(room, 1), 512) || x.Ancestor(0, 0) != 0 {
				t.Errorf("%d, room %d: %d of %d", i, room, x.Len(), x.Room())
			}
		}
	}
}

// sameAsArena: a tree must tell what an arena does.
func sameAsArena(t testing.TB, x *skip.Tree, a *arena.Arena) {
	t.Helper()
	if x.Len() != a.Len() || x.Room() != a.Room() || !reflect.DeepEqual(x.Rules(), a.Rules()) {
		t.Fatalf("%d of %d, %+v, not %d of %d, %+v", x.Len(), x.Room(), x.Rules(), a.Len(), a.Room(), a.Rules())
	}
	places := slices.Clone(noPlaces)
	for at := range a.Len() + 2 {
		places = append(places, at)
	}
	for _, at := range places {
		entry, is := x.At(at)
		wantEntry, want := a.At(at)
		if is != want || entry != wantEntry || x.Find(entry.Id) != a.Find(entry.Id) {
			t.Fatalf("at %d: %v, %+v, not %v, %+v", at, is, entry, want, wantEntry)
		}
		spot, is := x.Spot(at)
		wantSpot, want := a.Spot(at)
		if is != want || !reflect.DeepEqual(spot, wantSpot) {
			t.Fatalf("behind %d: %v, %+v, not %v, %+v", at, is, spot, want, wantSpot)
		}
		for _, other := range places {
			if got, want := x.Heavier(at, other), a.Heavier(at, other); got != want {
				t.Fatalf("%d, %d: %v, not %v", at, other, got, want)
			}
		}
	}
}

// visit is a header that comes by a clock, and what must be said of it.
type visit struct {
	h     api.Header
	now   int
	place int
	why   rule.Reason
	e     api.Errno
}

// visits: rules, and headers of all kinds that come to a tree of these with room for four.
func visits(t testing.TB) (api.Params, []visit) {
	t.Helper()
	changed := func(h api.Header, change func(h *api.Header)) api.Header {
		change(&h)
		return mined(t, h)
	}
	one, fork := behind(t, usual.Genesis, 10, 1), behind(t, usual.Genesis, 11, 2)
	two := behind(t, one, 10, 3)
	p := with(func(p *api.Params) {
		p.Gates = []api.Gate{{Height: 1, Version: 1}}
		p.Checks = []api.Check{{Height: 2, Id: header.Id(two)}}
	})
	cantBe := two
	cantBe.Nonce = 1 << 32
	return p, []visit{
		{p.Genesis, 0, 0, rule.Fine, api.OK},
		{two, 100, -1, rule.Elsewhere, api.ErrNone},
		{one, 100, 1, rule.Fine, api.OK},
		{one, -late, 1, rule.Fine, api.OK},
		{cantBe, 100, -1, rule.NoHeader, api.ErrRule},
		{changed(two, func(h *api.Header) { h.Bits-- }), 100, -1, rule.WrongBits, api.ErrRule},
		{unmined(two), 100, -1, rule.NoWork, api.ErrRule},
		{changed(two, func(h *api.Header) { h.Time = 60 }), 100, -1, rule.TooOld, api.ErrRule},
		{two, two.Time - 101, -1, rule.TooNew, api.ErrRule},
		{changed(two, func(h *api.Header) { h.Version = 0 }), 100, -1, rule.OldVersion, api.ErrRule},
		{changed(two, func(h *api.Header) { h.Root[9]++ }), 100, -1, rule.OffTrack, api.ErrRule},
		{fork, 100, 2, rule.Fine, api.OK},
		{two, two.Time - 100, 3, rule.Fine, api.OK},
		{behind(t, two, 10, 4), 100, -1, rule.Fine, api.ErrFull},
		{fork, 0, 2, rule.Fine, api.OK},
		{unmined(behind(t, two, 10, 4)), 100, -1, rule.NoWork, api.ErrRule},
	}
}

func TestP13_1AddAsTheArena(t *testing.T) {
	p, list := visits(t)
	x := made(t, p, 4)
	a, _ := arena.New(p, 4)
	for i, v := range list {
		a.Add(v.h, v.now)
		if at, why, e := x.Add(v.h, v.now); at != v.place || why != v.why || e != v.e {
			t.Fatalf("%d, %+v: %d, %d, %d", i, v, at, why, e)
		}
		sameAsArena(t, x, a)
	}
	if !x.Heavier(3, 1) || !x.Heavier(1, 2) || x.Heavier(2, 1) || x.Find(p.Checks[0].Id) != 3 || x.Len() != 4 {
		t.Errorf("%d stored", x.Len())
	}
	if x.Ancestor(3, 1) != 1 || x.Ancestor(2, 1) != 2 || x.Common(3, 2) != 0 || !slices.Equal(x.Path(3), []int{1, 3}) {
		t.Errorf("%d", x.Path(3))
	}
}

// byHand: a line of six behind the genesis, at the places 1 to 6; 7 and 8 branch off behind 3, 9 behind 7, 10 behind the genesis.
func byHand(t testing.TB) *skip.Tree {
	t.Helper()
	x := made(t, usual, 50)
	list := []api.Header{usual.Genesis}
	for i, ahead := range []int{0, 1, 2, 3, 4, 5, 3, 3, 7, 0} {
		h := behind(t, list[ahead], 11, i)
		stores(t, x, h, i+1)
		list = append(list, h)
	}
	return x
}

func TestP13_1AncestorByHand(t *testing.T) {
	x := byHand(t)
	for _, c := range [][3]int{
		{0, 0, 0}, {0, 1, -1}, {0, -1, -1},
		{1, 0, 0}, {1, 1, 1}, {1, 2, -1},
		{6, 0, 0}, {6, 1, 1}, {6, 2, 2}, {6, 3, 3}, {6, 4, 4}, {6, 5, 5}, {6, 6, 6}, {6, 7, -1}, {6, -1, -1}, {6, -6, -1},
		{7, 3, 3}, {7, 4, 7}, {7, 5, -1}, {8, 4, 8}, {8, 3, 3}, {9, 5, 9}, {9, 4, 7}, {9, 3, 3}, {9, 0, 0}, {9, 6, -1}, {9, 9, -1},
		{10, 1, 10}, {10, 0, 0}, {10, 2, -1},
		{11, 0, -1}, {11, 11, -1}, {-1, 0, -1}, {-1, -1, -1}, {50, 0, -1}, {512, 0, -1}, {math.MaxInt, 0, -1}, {math.MinInt, math.MinInt, -1},
		{6, math.MaxInt, -1}, {6, math.MinInt, -1},
	} {
		if got := x.Ancestor(c[0], c[1]); got != c[2] {
			t.Errorf("ahead of %d at %d: %d, not %d", c[0], c[1], got, c[2])
		}
	}
}

func TestP13_1CommonByHand(t *testing.T) {
	x := byHand(t)
	for _, c := range []struct {
		want   int
		places []int
	}{
		{-1, nil}, {-1, []int{}},
		{0, []int{0}}, {6, []int{6}}, {10, []int{10}}, {-1, []int{11}}, {-1, []int{-1}}, {-1, []int{math.MaxInt}}, {-1, []int{math.MinInt}},
		{6, []int{6, 6}}, {4, []int{6, 4}}, {4, []int{4, 6}}, {0, []int{6, 0}}, {0, []int{0, 6}}, {3, []int{6, 7}}, {3, []int{9, 6}}, {3, []int{8, 7}},
		{7, []int{7, 9}}, {7, []int{9, 7}}, {0, []int{10, 9}}, {0, []int{1, 10}}, {2, []int{2, 9}},
		{3, []int{6, 8, 9}}, {3, []int{5, 4, 9}}, {7, []int{9, 7, 9, 7}}, {2, []int{9, 8, 6, 2, 5}}, {0, []int{9, 8, 6, 2, 10}}, {4, []int{6, 5, 4}}, {4, []int{4, 5, 6}},
		{-1, []int{6, 11}}, {-1, []int{11, 6}}, {-1, []int{11, 11}}, {-1, []int{-1, 6}}, {-1, []int{6, -1}}, {-1, []int{-1, -1}},
		{-1, []int{0, 11, 0}}, {-1, []int{6, 10, 99}}, {-1, []int{99, 6, 10}}, {-1, []int{6, 4, math.MinInt, 4, 4}},
	} {
		if got := x.Common(c.places...); got != c.want {
			t.Errorf("common to %d: %d, not %d", c.places, got, c.want)
		}
	}
}

func TestP13_1WithinByHand(t *testing.T) {
	x := byHand(t)
	for _, c := range []struct {
		at, of int
		want   bool
	}{
		{0, 0, true}, {0, 6, true}, {6, 0, false}, {6, 6, true}, {5, 6, true}, {6, 5, false}, {1, 9, true}, {3, 9, true}, {4, 9, false}, {7, 9, true},
		{8, 9, false}, {9, 7, false}, {7, 8, false}, {4, 7, false}, {10, 1, false}, {1, 10, false}, {0, 10, true}, {10, 10, true},
		{11, 11, false}, {11, 6, false}, {6, 11, false}, {0, 11, false}, {11, 0, false}, {-1, 6, false}, {6, -1, false}, {-1, -1, false}, {0, -1, false}, {-1, 0, false},
		{math.MinInt, 6, false}, {6, math.MaxInt, false}, {0, 512, false}, {512, 512, false},
	} {
		if got := x.Within(c.at, c.of); got != c.want {
			t.Errorf("%d within %d: %v", c.at, c.of, got)
		}
	}
}

func TestP13_1PathByHand(t *testing.T) {
	x := byHand(t)
	for at, want := range map[int][]int{
		0: nil, 1: {1}, 2: {1, 2}, 6: {1, 2, 3, 4, 5, 6}, 7: {1, 2, 3, 7}, 8: {1, 2, 3, 8}, 9: {1, 2, 3, 7, 9}, 10: {10},
		11: nil, 50: nil, 512: nil, -1: nil, -2: nil, math.MinInt: nil, math.MaxInt: nil,
	} {
		if got := x.Path(at); !slices.Equal(got, want) {
			t.Errorf("to %d: %d, not %d", at, got, want)
		}
	}
}

func TestP13_1JustTheGenesis(t *testing.T) {
	x, m := made(t, usual, 1), newModel()
	if _, why, e := x.Add(behind(t, usual.Genesis, 11, 1), late); why != rule.Fine || e != api.ErrFull {
		t.Errorf("%d, %d", why, e)
	}
	for _, at := range append([]int{0, 1, 2}, noPlaces...) {
		sameOf(t, x, m, at)
		for _, of := range append([]int{0, 1, 2}, noPlaces...) {
			sameOfTwo(t, x, m, at, of)
		}
	}
}

func TestP13_1AnyTree(t *testing.T) {
	r := rand.New(rand.NewSource(13))
	for _, shape := range slices.Sorted(maps.Keys(shapes)) {
		x, m := grown(t, r, shape, 150)
		places := append([]int{150, 151}, noPlaces...)
		for at := range 150 {
			places = append(places, at)
		}
		for _, at := range places {
			sameOf(t, x, m, at)
			for _, of := range places {
				sameOfTwo(t, x, m, at, of)
			}
		}
		for range 2000 {
			list := make([]int, r.Intn(8))
			for i := range list {
				list[i] = places[2+len(noPlaces)+r.Intn(150)]
			}
			if r.Intn(10) == 0 {
				list = append(list, places[r.Intn(len(places))])
			}
			r.Shuffle(len(list), func(i, j int) { list[i], list[j] = list[j], list[i] })
			if got, want := x.Common(list...), m.common(list...); got != want {
				t.Fatalf("%s: common to %d: %d, not %d", shape, list, got, want)
			}
		}
	}
}

func TestP13_1AllTheWhileItGrows(t *testing.T) {
	r := rand.New(rand.NewSource(133))
	x, m := made(t, usual, 60), newModel()
	for n := 1; n < 60; n++ {
		grow(t, r, x, m, shapes["a line with branches"](r, n))
		for at := -1; at <= n+1; at++ {
			sameOf(t, x, m, at)
			sameOfTwo(t, x, m, at, n)
			sameOfTwo(t, x, m, n, at)
		}
	}
	over := behind(t, m.headers[59], 11, 60)
	if at, why, e := x.Add(over, late); at != -1 || why != rule.Fine || e != api.ErrFull {
		t.Fatalf("%d, %d, %d", at, why, e)
	}
	for at := -1; at <= 61; at++ {
		sameOf(t, x, m, at)
	}
}

func TestP13_1ManyPlacesAtOnce(t *testing.T) {
	x := byHand(t)
	list := make([]int, 20000)
	for i := range list {
		list[i] = []int{6, 9, 8, 5}[i%4]
	}
	if got := x.Common(list...); got != 3 {
		t.Errorf("%d", got)
	}
	list[19999] = 11
	if got := x.Common(list...); got != -1 {
		t.Errorf("%d", got)
	}
}

func TestP13_1NilTree(t *testing.T) {
	var x *skip.Tree
	for _, h := range []api.Header{{}, usual.Genesis, {Nonce: -1}, behind(t, usual.Genesis, 11, 1)} {
		if at, why, e := x.Add(h, late); at != -1 || why != rule.Fine || e != api.ErrNil {
			t.Errorf("%+v: %d, %d, %d", h, at, why, e)
		}
	}
	sameAsArena(t, x, nil)
	if x.Len() != 0 || x.Room() != 0 || x.Find(api.Hash{}) != -1 || x.Find(header.Id(usual.Genesis)) != -1 || x.Common() != -1 {
		t.Errorf("%d of %d", x.Len(), x.Room())
	}
	for _, at := range append([]int{0, 1}, noPlaces...) {
		if entry, is := x.At(at); is || entry != (arena.Entry{Ahead: -1}) {
			t.Errorf("at %d: %+v", at, entry)
		}
		if len(x.Path(at)) != 0 || x.Common(at) != -1 || x.Common(at, 0) != -1 || x.Common(0, at) != -1 {
			t.Errorf("%d: %d, %d", at, x.Path(at), x.Common(at))
		}
		for _, other := range append([]int{0, 1}, noPlaces...) {
			if x.Ancestor(at, other) != -1 || x.Within(at, other) || x.Heavier(at, other) {
				t.Errorf("%d, %d: %d", at, other, x.Ancestor(at, other))
			}
		}
	}
}

func TestP13_1WhatIsHandedInStaysAndIsntKept(t *testing.T) {
	gates := []api.Gate{{Height: 1, Version: 1}, {Height: 2, Version: 9}}
	p := with(func(p *api.Params) { p.Gates = gates[:1] })
	x := made(t, p, 9)
	stores(t, x, behind(t, usual.Genesis, 11, 1), 1)
	if gates[1] != (api.Gate{Height: 2, Version: 9}) {
		t.Errorf("%+v", gates)
	}
	gates[0].Version = 9
	if got := x.Rules().Gates; !slices.Equal(got, []api.Gate{{Height: 1, Version: 1}}) {
		t.Errorf("%+v", got)
	}
	stores(t, x, behind(t, usual.Genesis, 12, 2), 2)
	y := byHand(t)
	places := []int{9, 8, 6, 2, 77, 78}
	y.Common(places[:4]...)
	if !slices.Equal(places, []int{9, 8, 6, 2, 77, 78}) {
		t.Errorf("%d", places)
	}
}

func TestP13_1WhatIsToldIsNew(t *testing.T) {
	x := byHand(t)
	for range 2 {
		path := x.Path(6)
		if !slices.Equal(path, []int{1, 2, 3, 4, 5, 6}) {
			t.Fatalf("%d", path)
		}
		for i := range path[:cap(path)] {
			path[:cap(path)][i] = 0
		}
		spot, _ := x.Spot(6)
		clear(spot.Times)
	}
	if spot, _ := x.Spot(6); spot.Times[0] != 116 || x.Ancestor(6, 5) != 5 || x.Common(6, 9) != 3 {
		t.Errorf("%d", spot.Times)
	}
	path := x.Path(6)
	last, _ := x.At(6)
	stores(t, x, behind(t, last.Header, 11, 11), 11)
	if !slices.Equal(path, []int{1, 2, 3, 4, 5, 6}) || !slices.Equal(x.Path(11), []int{1, 2, 3, 4, 5, 6, 11}) {
		t.Errorf("%d, %d", path, x.Path(11))
	}
}

func TestP13_1TwoTreesKnowNothingOfOneAnother(t *testing.T) {
	x, y := byHand(t), made(t, usual, 50)
	one, _ := x.At(1)
	ten, _ := x.At(10)
	if y.Find(one.Id) != -1 || y.Ancestor(1, 0) != -1 || y.Len() != 1 {
		t.Errorf("%d stored", y.Len())
	}
	stores(t, y, ten.Header, 1)
	stores(t, y, behind(t, ten.Header, 11, 1), 2)
	if y.Ancestor(2, 1) != 1 || x.Ancestor(2, 1) != 1 || y.Common(1, 2) != 1 || x.Common(10, 2) != 0 || x.Len() != 11 {
		t.Errorf("%d, %d stored", x.Len(), y.Len())
	}
}

// stepped: what walking one by one finds, by what a tree tells of its places alone.
type stepped struct{ x *skip.Tree }

// way: the places from the genesis on to one.
func (s stepped) way(at int) []int {
	var out []int
	for entry, is := s.x.At(at); is; entry, is = s.x.At(at) {
		out = append(out, at)
		at = entry.Ahead
	}
	slices.Reverse(out)
	return out
}

// model: a model of a tree, by such ways.
func (s stepped) model() *model {
	m := &model{}
	for at := range s.x.Len() {
		m.ways = append(m.ways, s.way(at))
	}
	return m
}

func TestP13_2AsOneByOne(t *testing.T) {
	r := rand.New(rand.NewSource(132))
	for _, shape := range []string{"a line", "two lines that part late", "a line with branches", "a high bush"} {
		x, _ := grown(t, r, shape, 512)
		m := stepped{x}.model()
		for at := range 512 {
			sameOf(t, x, m, at)
		}
		for range 20000 {
			sameOfTwo(t, x, m, r.Intn(512), r.Intn(512))
		}
	}
}

// names: the names at places.
func names(x *skip.Tree, places ...int) []api.Hash {
	var out []api.Hash
	for _, at := range places {
		entry, _ := x.At(at)
		out = append(out, entry.Id)
	}
	return out
}

// shuffled: a tree with the headers of another one, in another order.
func shuffled(t testing.TB, r *rand.Rand, x *skip.Tree) *skip.Tree {
	t.Helper()
	y := made(t, x.Rules(), x.Room())
	for y.Len() < x.Len() {
		entry, _ := x.At(r.Intn(x.Len()))
		y.Add(entry.Header, late)
	}
	return y
}

func TestP13_2TheOrderInWhichTheyCame(t *testing.T) {
	r := rand.New(rand.NewSource(134))
	for _, shape := range []string{"a comb", "a low bush", "a high bush", "a line with branches"} {
		x, _ := grown(t, r, shape, 60)
		y := shuffled(t, r, x)
		there := func(at int) int { return y.Find(names(x, at)[0]) }
		for at := range x.Len() {
			if !slices.Equal(names(x, x.Path(at)...), names(y, y.Path(there(at))...)) {
				t.Fatalf("%s: to %d", shape, at)
			}
			for height := range 61 {
				if !slices.Equal(names(x, x.Ancestor(at, height)), names(y, y.Ancestor(there(at), height))) {
					t.Fatalf("%s: ahead of %d at %d", shape, at, height)
				}
			}
			for of := range x.Len() {
				if x.Within(at, of) != y.Within(there(at), there(of)) || !slices.Equal(names(x, x.Common(at, of)), names(y, y.Common(there(at), there(of)))) {
					t.Fatalf("%s: %d, %d", shape, at, of)
				}
			}
		}
	}
}
