package locate_test

import (
	"maps"
	"math"
	"math/rand"
	"reflect"
	"slices"
	"testing"

	"trailhead/api"
	"trailhead/arena"
	"trailhead/header"
	"trailhead/locate"
	"trailhead/skip"
)

// easiest is the limit of the rules here: every other name meets it.
const easiest = 0x207fffff

// late is a clock by which no header here comes too early.
const late = 1 << 20

// none is no place.
const none = -1

// usual are rules that can be; who takes eleven seconds a block, or more, keeps the easiest bits.
var usual = api.Params{
	Limit: easiest, Interval: 64, Spacing: 10, Future: 100,
	Genesis: api.Header{Version: 1, Time: 50, Bits: easiest},
}

// noPlaces are numbers that are no places of any tree.
var noPlaces = []int{math.MinInt, math.MinInt + 1, -1 << 32, -2, -1, 512, 513, 1 << 32, math.MaxInt - 1, math.MaxInt}

// behind: a header behind another one, so many seconds later; its root by a number.
func behind(t testing.TB, ahead api.Header, seconds, root int) api.Header {
	t.Helper()
	h := api.Header{Version: 1, Prev: header.Id(ahead), Time: ahead.Time + seconds, Bits: easiest}
	h.Root[0], h.Root[1] = byte(root), byte(root>>8)
	out, found := header.Seek(h, 1<<16)
	if !found {
		t.Fatalf("no number for %+v", h)
	}
	return out
}

// made: a tree.
func made(t testing.TB, p api.Params, room int) *skip.Tree {
	t.Helper()
	x, e := skip.New(p, room)
	if e != api.OK {
		t.Fatalf("%+v, %d: %d", p, room, e)
	}
	return x
}

// stores: a header is given to a tree, and must be stored at a place.
func stores(t testing.TB, x *skip.Tree, h api.Header, place int) {
	t.Helper()
	if at, why, e := x.Add(h, late); at != place || e != api.OK {
		t.Fatalf("%+v: at %d, %d, %d, not at %d", h, at, why, e, place)
	}
}

// model is what a tree has, with all ways to the genesis whole.
type model struct {
	headers []api.Header
	names   []api.Hash
	ways    [][]int // of each place those from the genesis on to itself
}

func newModel() *model {
	return &model{headers: []api.Header{usual.Genesis}, names: []api.Hash{header.Id(usual.Genesis)}, ways: [][]int{{0}}}
}

// is: whether a number is a place.
func (m *model) is(at int) bool { return at >= 0 && at < len(m.ways) }

// height: a place's.
func (m *model) height(at int) int { return len(m.ways[at]) - 1 }

// find: the place of a name, or none.
func (m *model) find(id api.Hash) int { return slices.Index(m.names, id) }

// part: the last place that is on the ways of both.
func (m *model) part(at, of int) int {
	out := 0
	for i := range min(len(m.ways[at]), len(m.ways[of])) {
		if m.ways[at][i] == m.ways[of][i] {
			out = m.ways[at][i]
		}
	}
	return out
}

// wantHeights: a locator's heights, by how far each lies below the first one.
func wantHeights(from int) []int {
	if from < 0 {
		return nil
	}
	var out []int
	for i := range 72 { // the next one would lie more than 2^63 below
		below := i
		if i > 10 { // 12, 16, 24, ..
			below = 8 + 1<<(i-9)
		}
		if below > from {
			break
		}
		out = append(out, from-below)
	}
	if out[len(out)-1] != 0 {
		out = append(out, 0)
	}
	return out
}

// locator: a place's.
func (m *model) locator(at int) []api.Hash {
	var out []api.Hash
	if m.is(at) {
		for _, height := range wantHeights(m.height(at)) {
			out = append(out, m.names[m.ways[at][height]])
		}
	}
	return out
}

// fork: the place of the first of names on the way to a tip; 0.
func (m *model) fork(tip int, names []api.Hash) int {
	if m.is(tip) {
		for _, id := range names {
			if at := m.find(id); at != none && slices.Contains(m.ways[tip], at) {
				return at
			}
		}
	}
	return 0
}

// answer: the headers behind the fork.
func (m *model) answer(tip int, names []api.Hash, stop api.Hash, most int) []api.Header {
	if !m.is(tip) {
		return nil
	}
	way := m.ways[tip]
	var out []api.Header
	for _, at := range way[slices.Index(way, m.fork(tip, names))+1:] {
		out = append(out, m.headers[at])
		if m.names[at] == stop {
			break
		}
	}
	return out[:max(min(most, len(out)), 0)]
}

// known: how many of headers are stored, from the first one on, and the last one's place.
func (m *model) known(list []api.Header) (int, int) {
	n := slices.IndexFunc(list, func(h api.Header) bool { return !slices.Contains(m.headers, h) })
	if n < 0 {
		n = len(list)
	}
	if n == 0 {
		return 0, none
	}
	return n, slices.Index(m.headers, list[n-1])
}

// shapes: for the header that comes as so many a one behind which of those that are there it stands.
var shapes = map[string]func(r *rand.Rand, n int) int{
	"a line":    func(r *rand.Rand, n int) int { return n - 1 },
	"a star":    func(r *rand.Rand, n int) int { return 0 },
	"two lines": func(r *rand.Rand, n int) int { return max(n-2, 0) },
	"two lines that part late": func(r *rand.Rand, n int) int {
		if n <= 70 {
			return n - 1
		}
		return n - 2
	},
	"a line with branches": func(r *rand.Rand, n int) int {
		if r.Intn(12) == 0 {
			return r.Intn(n)
		}
		return n - 1
	},
	"a high bush": func(r *rand.Rand, n int) int { return n - 1 - min(r.Intn(n), r.Intn(n), r.Intn(n), r.Intn(n)) },
}

// grow: a header more in a tree and its model.
func grow(t testing.TB, x *skip.Tree, m *model, ahead int) {
	t.Helper()
	n := len(m.headers)
	h := behind(t, m.headers[ahead], 11+n%4, n)
	stores(t, x, h, n)
	m.headers = append(m.headers, h)
	m.names = append(m.names, header.Id(h))
	m.ways = append(m.ways, append(slices.Clone(m.ways[ahead]), n))
}

// grown: a tree of a shape, and its model.
func grown(t testing.TB, r *rand.Rand, shape string, count int) (*skip.Tree, *model) {
	t.Helper()
	x, m := made(t, usual, count), newModel()
	for n := 1; n < count; n++ {
		grow(t, x, m, shapes[shape](r, n))
	}
	return x, m
}

// byHand: a line of six behind the genesis, at the places 1 to 6; 7 and 8 branch off behind 3, 9 behind 7, 10 behind the genesis.
func byHand(t testing.TB) (*skip.Tree, *model) {
	t.Helper()
	x, m := made(t, usual, 50), newModel()
	for _, ahead := range []int{0, 1, 2, 3, 4, 5, 3, 3, 7, 0} {
		grow(t, x, m, ahead)
	}
	return x, m
}

// picked: some of a list, by their places in it.
func picked[T any](list []T, places ...int) []T {
	var out []T
	for _, at := range places {
		out = append(out, list[at])
	}
	return out
}

// alien: a name that is stored nowhere.
func alien(n int) api.Hash { return api.Hash{31: byte(n), 30: byte(n >> 8), 7: 7} }

func TestP14_1HeightsByHand(t *testing.T) {
	for from, want := range map[int][]int{
		math.MinInt: nil, -1 << 32: nil, -12: nil, -2: nil, -1: nil,
		0: {0}, 1: {1, 0}, 2: {2, 1, 0}, 3: {3, 2, 1, 0},
		9:   {9, 8, 7, 6, 5, 4, 3, 2, 1, 0},
		10:  {10, 9, 8, 7, 6, 5, 4, 3, 2, 1, 0},
		11:  {11, 10, 9, 8, 7, 6, 5, 4, 3, 2, 1, 0},
		12:  {12, 11, 10, 9, 8, 7, 6, 5, 4, 3, 2, 0},
		13:  {13, 12, 11, 10, 9, 8, 7, 6, 5, 4, 3, 1, 0},
		15:  {15, 14, 13, 12, 11, 10, 9, 8, 7, 6, 5, 3, 0},
		16:  {16, 15, 14, 13, 12, 11, 10, 9, 8, 7, 6, 4, 0},
		17:  {17, 16, 15, 14, 13, 12, 11, 10, 9, 8, 7, 5, 1, 0},
		24:  {24, 23, 22, 21, 20, 19, 18, 17, 16, 15, 14, 12, 8, 0},
		25:  {25, 24, 23, 22, 21, 20, 19, 18, 17, 16, 15, 13, 9, 1, 0},
		30:  {30, 29, 28, 27, 26, 25, 24, 23, 22, 21, 20, 18, 14, 6, 0},
		264: {264, 263, 262, 261, 260, 259, 258, 257, 256, 255, 254, 252, 248, 240, 224, 192, 128, 0},
		511: {511, 510, 509, 508, 507, 506, 505, 504, 503, 502, 501, 499, 495, 487, 471, 439, 375, 247, 0},
	} {
		if got := locate.Heights(from); !slices.Equal(got, want) {
			t.Errorf("%d: %d, not %d", from, got, want)
		}
	}
}

func TestP14_1HeightsOfAnyHeight(t *testing.T) {
	var all []int
	for from := -20; from < 3000; from++ {
		all = append(all, from)
	}
	for bit := range 63 {
		for d := -12; d <= 12; d++ {
			all = append(all, 1<<bit+d, 1<<bit-d, -(1<<bit)+d)
		}
	}
	for d := range 40 {
		all = append(all, math.MaxInt-d, math.MinInt+d)
	}
	r := rand.New(rand.NewSource(14))
	for range 3000 {
		all = append(all, int(r.Uint64()>>r.Intn(64)))
	}
	for _, from := range all {
		if got, want := locate.Heights(from), wantHeights(from); !slices.Equal(got, want) {
			t.Fatalf("%d: %d, not %d", from, got, want)
		}
	}
	if got := locate.Heights(math.MaxInt); len(got) != 73 || got[71] != 1<<62-9 || got[72] != 0 {
		t.Errorf("%d", got)
	}
}

func TestP14_1LocatorByHand(t *testing.T) {
	x, m := byHand(t)
	for at, want := range map[int][]int{
		0: {0}, 1: {1, 0}, 6: {6, 5, 4, 3, 2, 1, 0}, 8: {8, 3, 2, 1, 0}, 9: {9, 7, 3, 2, 1, 0}, 10: {10, 0},
		11: nil, 50: nil, 512: nil, -1: nil, -2: nil, math.MinInt: nil, math.MaxInt: nil,
	} {
		if got := locate.Locator(x, at); !slices.Equal(got, picked(m.names, want...)) {
			t.Errorf("%d: %x", at, got)
		}
	}
	y, n := grown(t, nil, "a line", 40)
	for at, want := range map[int][]int{
		12: {12, 11, 10, 9, 8, 7, 6, 5, 4, 3, 2, 0},
		30: {30, 29, 28, 27, 26, 25, 24, 23, 22, 21, 20, 18, 14, 6, 0},
		39: {39, 38, 37, 36, 35, 34, 33, 32, 31, 30, 29, 27, 23, 15, 0},
	} {
		if got := locate.Locator(y, at); !slices.Equal(got, picked(n.names, want...)) {
			t.Errorf("%d: %x", at, got)
		}
	}
	grow(t, x, m, 6)
	for range 28 { // a way whose places, from 11 on, are four above their heights
		grow(t, x, m, len(m.names)-1)
	}
	if got := locate.Locator(x, 39); !slices.Equal(got, picked(m.names, 39, 38, 37, 36, 35, 34, 33, 32, 31, 30, 29, 27, 23, 15, 0)) {
		t.Errorf("39: %x", got)
	}
}

func TestP14_1ForkByHand(t *testing.T) {
	x, m := byHand(t)
	for _, c := range []struct {
		tip    int
		places []int
		want   int
	}{
		{6, nil, 0}, {6, []int{6}, 6}, {6, []int{5}, 5}, {6, []int{0}, 0}, {0, []int{0}, 0}, {0, []int{6, 5, 4}, 0}, {3, []int{6, 5, 4}, 0}, {3, []int{6, 5, 4, 3, 2}, 3},
		{6, []int{2, 5}, 2}, {6, []int{5, 2}, 5}, {6, []int{0, 5}, 0}, // the first one, not the last one on the way
		{6, []int{9, 7, 3, 2, 1, 0}, 3}, {9, []int{6, 5, 4, 3, 2, 1, 0}, 3}, {9, []int{8, 7, 6}, 7}, {8, []int{9, 7, 6, 5, 4}, 0}, {10, []int{9, 7, 3, 2, 1, 0}, 0}, {10, []int{6, 10}, 10},
		{9, []int{4, 8, 10, 1}, 1}, {6, []int{6, 6, 1}, 6},
		{11, []int{6}, 0}, {-1, []int{6}, 0}, {50, []int{6, 1}, 0}, {math.MaxInt, []int{9}, 0}, {math.MinInt, []int{9}, 0}, {-1, nil, 0},
	} {
		names := picked(m.names, c.places...)
		if got := locate.Fork(x, c.tip, names...); got != c.want {
			t.Errorf("%d, %d: %d, not %d", c.tip, c.places, got, c.want)
		}
		strange := append([]api.Hash{{}, alien(1)}, names...)
		strange = append(slices.Insert(strange, 2+len(names)/2, alien(2)), alien(3))
		if got := locate.Fork(x, c.tip, strange...); got != c.want {
			t.Errorf("%d, %d, among strange ones: %d, not %d", c.tip, c.places, got, c.want)
		}
	}
	if got := locate.Fork(x, 6, alien(1), api.Hash{}); got != 0 {
		t.Errorf("%d", got)
	}
}

func TestP14_1AnswerByHand(t *testing.T) {
	x, m := byHand(t)
	no, out := api.Hash{}, alien(9)
	id := func(at int) api.Hash { return m.names[at] }
	for _, c := range []struct {
		tip    int
		places []int
		stop   api.Hash
		most   int
		want   []int
	}{
		{6, nil, no, 64, []int{1, 2, 3, 4, 5, 6}}, {6, nil, out, 64, []int{1, 2, 3, 4, 5, 6}}, {9, nil, no, 64, []int{1, 2, 3, 7, 9}}, {10, nil, no, 64, []int{10}},
		{0, nil, no, 64, nil}, {0, []int{0}, id(0), 64, nil}, {0, []int{6}, no, 64, nil},
		{6, []int{0}, no, 64, []int{1, 2, 3, 4, 5, 6}}, {6, []int{3}, no, 64, []int{4, 5, 6}}, {6, []int{5}, no, 64, []int{6}}, {6, []int{6}, no, 64, nil}, {6, []int{6}, id(6), 64, nil},
		{6, []int{9, 7, 3, 2, 1, 0}, no, 64, []int{4, 5, 6}}, {9, []int{6, 5, 4, 3, 2, 1, 0}, no, 64, []int{7, 9}}, {3, []int{6, 5, 4, 3}, no, 64, nil}, {6, []int{2, 5}, no, 64, []int{3, 4, 5, 6}},
		{6, nil, no, 6, []int{1, 2, 3, 4, 5, 6}}, {6, nil, no, 5, []int{1, 2, 3, 4, 5}}, {6, nil, no, 1, []int{1}}, {6, nil, no, 0, nil}, {6, nil, no, -1, nil}, {6, nil, id(1), 0, nil},
		{6, nil, no, math.MinInt, nil}, {6, nil, no, math.MaxInt, []int{1, 2, 3, 4, 5, 6}}, {6, []int{4}, no, 1, []int{5}}, {6, []int{4}, no, 2, []int{5, 6}}, {6, []int{4}, no, 3, []int{5, 6}},
		{6, nil, id(1), 64, []int{1}}, {6, nil, id(4), 64, []int{1, 2, 3, 4}}, {6, nil, id(6), 64, []int{1, 2, 3, 4, 5, 6}}, {6, nil, id(4), 4, []int{1, 2, 3, 4}}, {6, nil, id(4), 3, []int{1, 2, 3}}, {6, nil, id(4), 5, []int{1, 2, 3, 4}},
		{6, []int{3}, id(4), 64, []int{4}}, {6, []int{3}, id(3), 64, []int{4, 5, 6}}, {6, []int{3}, id(2), 64, []int{4, 5, 6}}, {6, []int{3}, id(0), 64, []int{4, 5, 6}}, // one ahead of the fork isn't come by
		{6, nil, id(0), 64, []int{1, 2, 3, 4, 5, 6}}, {6, nil, id(9), 64, []int{1, 2, 3, 4, 5, 6}}, {5, nil, id(6), 64, []int{1, 2, 3, 4, 5}}, // nor one on another way, or behind the tip
		{11, nil, no, 64, nil}, {-1, nil, no, 64, nil}, {-1, []int{3}, id(4), 64, nil}, {50, []int{0}, no, 64, nil}, {512, nil, no, 64, nil}, {math.MinInt, nil, no, 64, nil}, {math.MaxInt, []int{0}, no, 64, nil},
	} {
		if got := locate.Answer(x, c.tip, picked(m.names, c.places...), c.stop, c.most); !slices.Equal(got, picked(m.headers, c.want...)) {
			t.Errorf("%d, %d, %x, %d: %d headers: %+v", c.tip, c.places, c.stop, c.most, len(got), got)
		}
	}
	if got := locate.Answer(x, 6, []api.Hash{out, no, id(9), id(4), id(5)}, no, 64); !slices.Equal(got, picked(m.headers, 5, 6)) {
		t.Errorf("%+v", got)
	}
}

func TestP14_1AnswerOfMoreThanAMessageHas(t *testing.T) {
	x, m := grown(t, nil, "a line", 200)
	for _, most := range []int{63, 64, 65, 199, 200} {
		if got := locate.Answer(x, 199, nil, api.Hash{}, most); !slices.Equal(got, m.headers[1:min(most, 199)+1]) {
			t.Errorf("%d: %d headers", most, len(got))
		}
	}
	names := make([]api.Hash, 5000)
	for i := range names {
		names[i] = alien(i)
	}
	names[4999] = m.names[7]
	if got := locate.Fork(x, 199, names...); got != 7 {
		t.Errorf("%d", got)
	}
	if got := locate.Answer(x, 199, names, m.names[9], 64); !slices.Equal(got, m.headers[8:10]) {
		t.Errorf("%d headers", len(got))
	}
}

// likes: headers that are like one, but for one thing each.
func likes(h api.Header) []api.Header {
	changes := []func(h *api.Header){
		func(h *api.Header) { h.Version++ }, func(h *api.Header) { h.Version += 1 << 32 }, func(h *api.Header) { h.Version = math.MinInt },
		func(h *api.Header) { h.Prev[31] ^= 1 }, func(h *api.Header) { h.Root[0] ^= 128 },
		func(h *api.Header) { h.Time-- }, func(h *api.Header) { h.Time += 1 << 32 }, func(h *api.Header) { h.Time = -1 },
		func(h *api.Header) { h.Bits-- }, func(h *api.Header) { h.Bits += 1 << 32 },
		func(h *api.Header) { h.Nonce++ }, func(h *api.Header) { h.Nonce -= 1 << 32 }, func(h *api.Header) { *h = api.Header{} },
	}
	var out []api.Header
	for _, change := range changes {
		like := h
		change(&like)
		out = append(out, like)
	}
	return out
}

func TestP14_1KnownByHand(t *testing.T) {
	x, m := byHand(t)
	strange := behind(t, m.headers[6], 11, 99)
	for _, c := range []struct {
		list []api.Header
		n    int
		last int
	}{
		{nil, 0, none}, {[]api.Header{}, 0, none},
		{picked(m.headers, 0), 1, 0}, {picked(m.headers, 1), 1, 1}, {picked(m.headers, 6), 1, 6}, {picked(m.headers, 10), 1, 10},
		{picked(m.headers, 1, 2, 3), 3, 3}, {picked(m.headers, 1, 2, 3, 7, 9), 5, 9}, {picked(m.headers, 0, 1, 2, 3, 4, 5, 6), 7, 6},
		{picked(m.headers, 9, 4, 10, 1), 4, 1}, {picked(m.headers, 3, 2, 1, 0), 4, 0}, {picked(m.headers, 5, 5, 5), 3, 5}, // they needn't hang on one another
		{[]api.Header{strange}, 0, none}, {[]api.Header{strange, m.headers[1]}, 0, none}, {[]api.Header{m.headers[6], strange}, 1, 6},
		{[]api.Header{m.headers[5], m.headers[6], strange, m.headers[7]}, 2, 6}, {[]api.Header{m.headers[0], strange, m.headers[1], m.headers[2]}, 1, 0},
	} {
		if n, last := locate.Known(x, c.list...); n != c.n || last != c.last {
			t.Errorf("%+v: %d, %d, not %d, %d", c.list, n, last, c.n, c.last)
		}
	}
	for at, h := range m.headers {
		for _, like := range likes(h) {
			if n, last := locate.Known(x, like, h); n != 0 || last != none {
				t.Errorf("%+v: %d, %d", like, n, last)
			}
			if n, last := locate.Known(x, m.headers[3], h, like, h); n != 2 || last != at {
				t.Errorf("%+v: %d, %d", like, n, last)
			}
		}
	}
	stores(t, x, strange, 11)
	if n, last := locate.Known(x, m.headers[6], strange, m.headers[7]); n != 3 || last != 7 {
		t.Errorf("%d, %d", n, last)
	}
}

func TestP14_1JustTheGenesis(t *testing.T) {
	x, m := made(t, usual, 1), newModel()
	one := behind(t, usual.Genesis, 11, 1)
	for _, at := range append([]int{0, 1, 2}, noPlaces...) {
		if got := locate.Locator(x, at); !slices.Equal(got, m.locator(at)) {
			t.Errorf("%d: %x", at, got)
		}
		for _, names := range [][]api.Hash{nil, {}, m.names, {header.Id(one)}, {header.Id(one), m.names[0]}} {
			if got := locate.Fork(x, at, names...); got != 0 {
				t.Errorf("%d, %x: %d", at, names, got)
			}
			if got := locate.Answer(x, at, names, api.Hash{}, 64); len(got) != 0 {
				t.Errorf("%d, %x: %+v", at, names, got)
			}
		}
	}
	if n, last := locate.Known(x, usual.Genesis, one); n != 1 || last != 0 {
		t.Errorf("%d, %d", n, last)
	}
}

func TestP14_1NilTree(t *testing.T) {
	names := []api.Hash{{}, header.Id(usual.Genesis), alien(1)}
	for _, at := range append([]int{0, 1}, noPlaces...) {
		if got := locate.Locator(nil, at); len(got) != 0 {
			t.Errorf("%d: %x", at, got)
		}
		if got := locate.Fork(nil, at); got != 0 {
			t.Errorf("%d: %d", at, got)
		}
		if got := locate.Fork(nil, at, names...); got != 0 {
			t.Errorf("%d: %d", at, got)
		}
		for _, most := range append([]int{0, 1}, noPlaces...) {
			if got := locate.Answer(nil, at, names, names[1], most); len(got) != 0 {
				t.Errorf("%d, %d: %+v", at, most, got)
			}
			if got := locate.Answer(nil, at, nil, api.Hash{}, most); len(got) != 0 {
				t.Errorf("%d, %d: %+v", at, most, got)
			}
		}
	}
	for _, list := range [][]api.Header{nil, {}, {{}}, {usual.Genesis}, {usual.Genesis, {Nonce: -1}}} {
		if n, last := locate.Known(nil, list...); n != 0 || last != none {
			t.Errorf("%+v: %d, %d", list, n, last)
		}
	}
}

// someNames: names of places of a model, and strange ones, at random.
func someNames(r *rand.Rand, m *model) []api.Hash {
	out := make([]api.Hash, r.Intn(5))
	for i := range out {
		out[i] = alien(r.Intn(100))
		if r.Intn(4) > 0 {
			out[i] = m.names[r.Intn(len(m.names))]
		}
	}
	return out
}

// someHeaders: headers of places of a model, and now and then a strange one, at random.
func someHeaders(r *rand.Rand, m *model) []api.Header {
	out := make([]api.Header, r.Intn(8))
	for i := range out {
		out[i] = m.headers[r.Intn(len(m.headers))]
		if r.Intn(6) == 0 {
			list := likes(out[i])
			out[i] = list[r.Intn(len(list))]
		}
	}
	return out
}

// asks: a tree must answer as its model does, of a tip, by names.
func asks(t testing.TB, r *rand.Rand, x *skip.Tree, m *model, tip int, names []api.Hash) {
	t.Helper()
	if got, want := locate.Fork(x, tip, names...), m.fork(tip, names); got != want {
		t.Fatalf("%d, %x: %d, not %d", tip, names, got, want)
	}
	for _, stop := range []api.Hash{{}, alien(1), m.names[r.Intn(len(m.names))], m.names[0]} {
		for _, most := range []int{1 << 40, 64, r.Intn(20), -r.Intn(3)} {
			if got, want := locate.Answer(x, tip, names, stop, most), m.answer(tip, names, stop, most); !slices.Equal(got, want) {
				t.Fatalf("%d, %x, %x, %d: %+v, not %+v", tip, names, stop, most, got, want)
			}
		}
	}
}

func TestP14_1AnyTree(t *testing.T) {
	r := rand.New(rand.NewSource(141))
	for _, shape := range slices.Sorted(maps.Keys(shapes)) {
		x, m := grown(t, r, shape, 120)
		places := append([]int{120, 121}, noPlaces...)
		for at := range 120 {
			places = append(places, at)
		}
		for _, at := range places {
			if got, want := locate.Locator(x, at), m.locator(at); !slices.Equal(got, want) {
				t.Fatalf("%s: %d: %x, not %x", shape, at, got, want)
			}
			asks(t, r, x, m, at, nil)
			for range 10 {
				asks(t, r, x, m, at, someNames(r, m))
				asks(t, r, x, m, at, m.locator(r.Intn(120)))
			}
		}
		for range 2000 {
			list := someHeaders(r, m)
			wantN, wantLast := m.known(list)
			if n, last := locate.Known(x, list...); n != wantN || last != wantLast {
				t.Fatalf("%s: %+v: %d, %d, not %d, %d", shape, list, n, last, wantN, wantLast)
			}
		}
	}
}

func TestP14_1AllTheWhileItGrows(t *testing.T) {
	r := rand.New(rand.NewSource(142))
	x, m := made(t, usual, 60), newModel()
	for n := 1; n < 60; n++ {
		before := m.locator(n - 1)
		grow(t, x, m, shapes["a line with branches"](r, n))
		for at := -1; at <= n+1; at++ {
			if got, want := locate.Locator(x, at), m.locator(at); !slices.Equal(got, want) {
				t.Fatalf("%d: %x, not %x", at, got, want)
			}
		}
		asks(t, r, x, m, n, before)
		asks(t, r, x, m, n, []api.Hash{m.names[n]})
		asks(t, r, x, m, n-1, []api.Hash{m.names[n]})
		asks(t, r, x, m, n+1, []api.Hash{m.names[n]})
		if got, last := locate.Known(x, m.headers...); got != n+1 || last != n {
			t.Fatalf("%d: %d, %d", n, got, last)
		}
	}
}

func TestP14_1WhatIsHandedInStays(t *testing.T) {
	x, m := byHand(t)
	var before []arena.Entry
	for at := range x.Len() {
		entry, _ := x.At(at)
		before = append(before, entry)
	}
	names := append(picked(m.names, 9, 4, 2), alien(1), alien(2))
	headers := append(picked(m.headers, 1, 2, 7), api.Header{Time: 1}, api.Header{Time: 2})
	sameNames, sameHeaders := slices.Clone(names), slices.Clone(headers)
	locate.Locator(x, 6)
	locate.Fork(x, 6, names[:3]...)
	locate.Answer(x, 6, names[:3], m.names[6], 64)
	locate.Known(x, headers[:4]...)
	if !slices.Equal(names, sameNames) || !slices.Equal(headers, sameHeaders) {
		t.Errorf("%x, %+v", names, headers)
	}
	for at, want := range before {
		if got, _ := x.At(at); got != want {
			t.Errorf("at %d: %+v", at, got)
		}
	}
	if x.Len() != 11 || !reflect.DeepEqual(x.Rules(), usual) {
		t.Errorf("%d stored", x.Len())
	}
}

func TestP14_1WhatIsToldIsNew(t *testing.T) {
	x, m := byHand(t)
	for range 2 {
		heights, names := locate.Heights(14), locate.Locator(x, 6)
		list := locate.Answer(x, 6, picked(m.names, 2), api.Hash{}, 3)
		if !slices.Equal(heights, wantHeights(14)) || !slices.Equal(names, m.locator(6)) || !slices.Equal(list, m.headers[3:6]) {
			t.Fatalf("%d, %x, %+v", heights, names, list)
		}
		clear(heights[:cap(heights)])
		clear(names[:cap(names)])
		clear(list[:cap(list)])
	}
	list := locate.Answer(x, 6, nil, api.Hash{}, 64)
	names := locate.Locator(x, 6)
	grow(t, x, m, 6)
	if !slices.Equal(list, m.headers[1:7]) || !slices.Equal(names, m.locator(6)) || !slices.Equal(x.Path(6), m.ways[6][1:]) {
		t.Errorf("%x, %+v", names, list)
	}
}

func TestP14_1TwoTreesKnowNothingOfOneAnother(t *testing.T) {
	x, m := byHand(t)
	y := made(t, usual, 50)
	if locate.Fork(y, 0, m.names...) != 0 || len(locate.Answer(y, 0, nil, api.Hash{}, 64)) != 0 || len(locate.Locator(y, 1)) != 0 {
		t.Error("another tree's headers")
	}
	if n, last := locate.Known(y, m.headers...); n != 1 || last != 0 {
		t.Errorf("%d, %d", n, last)
	}
	stores(t, y, m.headers[10], 1)
	if n, last := locate.Known(y, m.headers[10], m.headers[1]); n != 1 || last != 1 {
		t.Errorf("%d, %d", n, last)
	}
	if got := locate.Fork(y, 1, m.names[10]); got != 1 {
		t.Errorf("%d", got)
	}
	if got := locate.Fork(x, 10, m.names[10]); got != 10 {
		t.Errorf("%d", got)
	}
}

func TestP14_2ALocatorIsShortAndEndsWithTheGenesis(t *testing.T) {
	r := rand.New(rand.NewSource(143))
	genesis := header.Id(usual.Genesis)
	most := 0
	for _, shape := range slices.Sorted(maps.Keys(shapes)) {
		x, m := grown(t, r, shape, api.MaxStored)
		for at := range api.MaxStored {
			names := locate.Locator(x, at)
			if len(names) < 1 || len(names) > api.MaxLocator || names[len(names)-1] != genesis || names[0] != m.names[at] {
				t.Fatalf("%s: %d: %d names: %x", shape, at, len(names), names)
			}
			if n := slices.Index(names, genesis); n != len(names)-1 {
				t.Fatalf("%s: %d: the genesis at %d of %d", shape, at, n, len(names))
			}
			most = max(most, len(names))
		}
	}
	if most != 19 { // of the height 511
		t.Errorf("%d names at most", most)
	}
}

// near: an answer about a place, by a locator with these heights, must begin behind a block of its own way that isn't too far ahead of the last one that both have.
func near(t testing.TB, way []api.Header, part int, heights []int, answer []api.Header) {
	t.Helper()
	if len(answer) == 0 {
		if part != len(way)-1 {
			t.Fatalf("nothing about %d headers, of which %d are shared", len(way), part+1)
		}
		return
	}
	first := slices.Index(way, answer[0])
	if first < 1 || !slices.Equal(way[first:], answer) {
		t.Fatalf("%d headers, the first one at %d of %d", len(answer), first, len(way))
	}
	fork, step := first-1, 1
	for i, height := range heights[1:] {
		if height == fork {
			step = heights[i] - height
		}
	}
	if fork > part || part-fork >= step {
		t.Fatalf("behind %d by a step of %d, though they part behind %d", fork, step, part)
	}
}

func TestP14_2AnAnswerBeginsNearWhereTheyPart(t *testing.T) {
	r := rand.New(rand.NewSource(144))
	far := 0 // how often it began ahead of where they part
	for _, shape := range slices.Sorted(maps.Keys(shapes)) {
		x, m := grown(t, r, shape, 300)
		for range 4000 {
			one, other := r.Intn(300), max(r.Intn(300), r.Intn(300))
			part := m.height(m.part(one, other))
			answer := locate.Answer(x, other, locate.Locator(x, one), api.Hash{}, api.MaxStored)
			near(t, picked(m.headers, m.ways[other]...), part, wantHeights(m.height(one)), answer)
			if len(answer) > m.height(other)-part {
				far++
			}
		}
	}
	if far < 500 {
		t.Errorf("too few for a test: %d", far)
	}
}

func TestP14_2BetweenTwoTrees(t *testing.T) {
	for _, c := range []struct{ shared, mine, theirs, first int }{
		{0, 3, 3, 1}, {0, 100, 100, 1}, {1, 100, 100, 1}, {30, 0, 20, 31}, {30, 20, 0, 0}, {40, 10, 10, 41}, {40, 11, 10, 40}, {40, 12, 10, 41}, {40, 13, 10, 38}, {40, 16, 10, 41}, {40, 17, 10, 34},
		{100, 5, 64, 101}, {100, 50, 64, 79}, {400, 100, 3, 365}, {400, 60, 3, 389}, {509, 2, 2, 510},
	} {
		x, m := grown(t, nil, "a line", c.shared+1)
		x, y := made(t, usual, api.MaxStored), made(t, usual, api.MaxStored)
		for at, h := range m.headers {
			stores(t, x, h, at)
			stores(t, y, h, at)
		}
		way := slices.Clone(m.headers)
		for range c.theirs {
			way = append(way, behind(t, way[len(way)-1], 20, 7))
			stores(t, x, way[len(way)-1], len(way)-1)
		}
		mine := m.headers[c.shared]
		for i := range c.mine {
			mine = behind(t, mine, 30, 9)
			stores(t, y, mine, c.shared+1+i)
		}
		answer := locate.Answer(x, x.Len()-1, locate.Locator(y, y.Len()-1), api.Hash{}, api.MaxStored)
		near(t, way, c.shared, wantHeights(c.shared+c.mine), answer)
		if c.first > 0 && (len(answer) == 0 || answer[0] != way[c.first]) {
			t.Errorf("%+v: %d headers", c, len(answer))
		}
	}
}
