package arena_test

import (
	"crypto/sha256"
	"encoding/binary"
	"math"
	"math/big"
	"math/rand"
	"reflect"
	"slices"
	"testing"

	"trailhead/api"
	"trailhead/arena"
	"trailhead/pace"
	"trailhead/rule"
)

// easiest is the limit of most rules here: every other name meets it.
const easiest = 0x207fffff

// usual are rules that can be; their periods are longer than most chains here, so that Bits stay the same.
var usual = api.Params{
	Limit: easiest, Interval: 64, Spacing: 10, Future: 100,
	Genesis: api.Header{Version: 1, Time: 50, Bits: easiest},
}

// noPlaces are numbers that are no places of an arena with fewer than 512 headers.
var noPlaces = []int{math.MinInt, math.MinInt + 1, -1 << 32, -2, -1, 512, 513, 1 << 32, math.MaxInt - 1, math.MaxInt}

// name: a name of other bytes for each number.
func name(seed int) api.Hash {
	var out api.Hash
	for i := range out {
		out[i] = byte(seed + 7*i)
	}
	return out
}

// with: rules with something changed.
func with(p api.Params, change func(p *api.Params)) api.Params {
	change(&p)
	return p
}

// wantGood: whether a header can be.
func wantGood(h api.Header) bool {
	fits := func(n int) bool { return n >= 0 && n < 1<<32 }
	return h.Version >= -1<<31 && h.Version < 1<<31 && fits(h.Time) && fits(h.Bits) && fits(h.Nonce)
}

// wantId: the name of a header that can be, by another's SHA-256.
func wantId(h api.Header) api.Hash {
	s := binary.LittleEndian.AppendUint32(nil, uint32(h.Version))
	s = append(s, h.Prev[:]...)
	s = append(s, h.Root[:]...)
	for _, n := range []int{h.Time, h.Bits, h.Nonce} {
		s = binary.LittleEndian.AppendUint32(s, uint32(n))
	}
	inner := sha256.Sum256(s)
	return sha256.Sum256(inner[:])
}

// wantTarget: what is in short, as a number without bounds; false: it is none.
func wantTarget(bits int) (*big.Int, bool) {
	if bits < 0 || bits > math.MaxUint32 || bits&(1<<23) != 0 {
		return nil, false
	}
	n := big.NewInt(int64(bits & 0x7fffff))
	if n.Lsh(n, uint(8*(bits>>24))).Rsh(n, 24); n.Sign() == 0 || n.BitLen() > 256 {
		return nil, false
	}
	return n, true
}

// wantWork: the work behind a target in short, as a number without bounds.
func wantWork(bits int) *big.Int {
	target, ok := wantTarget(bits)
	if !ok {
		return new(big.Int)
	}
	all := new(big.Int).Lsh(big.NewInt(1), 256)
	return all.Div(all, target.Add(target, big.NewInt(1)))
}

// asNum: a number without bounds in four words; the greatest one, if it has no room there.
func asNum(n *big.Int) api.Num {
	if n.BitLen() > 256 {
		return api.Num{math.MaxUint64, math.MaxUint64, math.MaxUint64, math.MaxUint64}
	}
	var out api.Num
	for i := range out {
		word := new(big.Int).And(new(big.Int).Rsh(n, uint(64*i)), new(big.Int).SetUint64(math.MaxUint64))
		out[i] = word.Uint64()
	}
	return out
}

// mined: a header whose name meets its target (or doesn't, if that is asked for), by its number.
func mined(t testing.TB, h api.Header, meets bool) api.Header {
	t.Helper()
	target, ok := wantTarget(h.Bits)
	if !ok {
		t.Fatalf("%x is no target", h.Bits)
	}
	for range 1 << 16 {
		id := wantId(h)
		slices.Reverse(id[:])
		if new(big.Int).SetBytes(id[:]).Cmp(target) <= 0 == meets {
			return h
		}
		h.Nonce++
	}
	t.Fatalf("no number for %+v", h)
	return h
}

// behind: a header with the easiest bits behind another one, at a time; its root by a number.
func behind(t testing.TB, ahead api.Header, time, root int) api.Header {
	t.Helper()
	return mined(t, api.Header{Version: 1, Prev: wantId(ahead), Root: name(root), Time: time, Bits: easiest}, true)
}

// made: an arena.
func made(t testing.TB, p api.Params, room int) *arena.Arena {
	t.Helper()
	a, e := arena.New(p, room)
	if e != api.OK || a == nil {
		t.Fatalf("%+v, %d: %d", p, room, e)
	}
	return a
}

// stores: a header is given to an arena, and must be stored at a place.
func stores(t testing.TB, a *arena.Arena, h api.Header, now, place int) {
	t.Helper()
	if at, why, e := a.Add(h, now); at != place || why != rule.Fine || e != api.OK || a.Find(wantId(h)) != place {
		t.Fatalf("%+v by %d: at %d, %d, %d, not at %d", h, now, at, why, e, place)
	}
}

// refuses: a header is given to an arena, and must be refused; all stays as it was.
func refuses(t testing.TB, a *arena.Arena, h api.Header, now int, want rule.Reason, wantError api.Errno) {
	t.Helper()
	was := shotOf(a)
	if at, why, e := a.Add(h, now); at != arena.None || why != want || e != wantError {
		t.Errorf("%+v by %d: at %d, %d, %d, not %d, %d", h, now, at, why, e, want, wantError)
	}
	if now := shotOf(a); !reflect.DeepEqual(now, was) {
		t.Errorf("%+v, not as it was: %+v", now, was)
	}
	if wantGood(h) && a.Find(wantId(h)) != arena.None {
		t.Errorf("%+v is found", h)
	}
}

// shot is all that an arena tells.
type shot struct {
	rules     api.Params
	len, room int
	entries   []arena.Entry
	spots     []rule.Spot
	found     []int
}

func shotOf(a *arena.Arena) shot {
	out := shot{rules: a.Rules(), len: a.Len(), room: a.Room()}
	for at := range a.Len() {
		x, _ := a.At(at)
		s, _ := a.Spot(at)
		out.entries, out.spots, out.found = append(out.entries, x), append(out.spots, s), append(out.found, a.Find(x.Id))
	}
	return out
}

// row is a header that a model of an arena has; the clock by which it came; all work up to it.
type row struct {
	h      api.Header
	id     api.Hash
	ahead  int
	height int
	clock  int
	work   *big.Int
}

// model is an arena of which all is reckoned anew from the headers.
type model struct {
	p    api.Params
	room int
	rows []row
}

func newModel(p api.Params, room int) *model {
	m := &model{p: p, room: room}
	m.rows = append(m.rows, row{h: p.Genesis, id: wantId(p.Genesis), ahead: -1, work: wantWork(p.Genesis.Bits)})
	return m
}

// find: the place of a name; -1.
func (m *model) find(id api.Hash) int {
	return slices.IndexFunc(m.rows, func(r row) bool { return r.id == id })
}

// chain: the headers from the genesis on to a place.
func (m *model) chain(at int) []api.Header {
	var out []api.Header
	for ; at >= 0; at = m.rows[at].ahead {
		out = append(out, m.rows[at].h)
	}
	slices.Reverse(out)
	return out
}

// wantSpot: the spot behind a chain, by all of its headers.
func wantSpot(p api.Params, chain []api.Header) rule.Spot {
	last := len(chain) - 1
	out := rule.Spot{Point: pace.Point{Height: len(chain), Bits: chain[last].Bits, Time: chain[last].Time}, Prev: wantId(chain[last])}
	out.First = chain[last-last%p.Interval].Time
	hard := last
	for p.Easy && hard%p.Interval != 0 && chain[hard].Bits == p.Limit {
		hard--
	}
	out.Hard = chain[hard].Bits
	for i := last; i >= 0 && i > last-11; i-- {
		out.Times = append(out.Times, chain[i].Time)
	}
	return out
}

// add: what an arena's Add must answer; what is to be stored is.
func (m *model) add(h api.Header, now int) (int, rule.Reason, api.Errno) {
	if !wantGood(h) {
		return -1, rule.NoHeader, api.ErrRule
	}
	if at := m.find(wantId(h)); at >= 0 {
		return at, rule.Fine, api.OK
	}
	ahead := m.find(h.Prev)
	if ahead < 0 {
		return -1, rule.Elsewhere, api.ErrNone
	}
	chain := m.chain(ahead)
	if why := rule.Check(m.p, wantSpot(m.p, chain), h, now); why != rule.Fine {
		return -1, why, api.ErrRule
	}
	if len(m.rows) == m.room {
		return -1, rule.Fine, api.ErrFull
	}
	work := wantWork(h.Bits)
	for _, other := range chain {
		work.Add(work, wantWork(other.Bits))
	}
	m.rows = append(m.rows, row{h, wantId(h), ahead, len(chain), now, work})
	return len(m.rows) - 1, rule.Fine, api.OK
}

// same: an arena must tell what its model does.
func (m *model) same(t testing.TB, a *arena.Arena) {
	t.Helper()
	if a.Len() != len(m.rows) || a.Room() != m.room || !sameRules(a.Rules(), m.p) {
		t.Fatalf("%d, %d, %+v, not %d, %d, %+v", a.Len(), a.Room(), a.Rules(), len(m.rows), m.room, m.p)
	}
	for at, r := range m.rows {
		want := arena.Entry{Header: r.h, Id: r.id, Ahead: r.ahead, Height: r.height, Work: asNum(r.work)}
		if got, is := a.At(at); !is || got != want {
			t.Fatalf("at %d: %v, %+v, not %+v", at, is, got, want)
		}
		if got := a.Find(r.id); got != at {
			t.Fatalf("found at %d, not %d", got, at)
		}
		if got, is := a.Spot(at); !is || !sameSpot(got, wantSpot(m.p, m.chain(at))) {
			t.Fatalf("behind %d: %v, %+v, not %+v", at, is, got, wantSpot(m.p, m.chain(at)))
		}
	}
	for _, at := range append([]int{a.Len(), a.Len() + 1}, noPlaces...) {
		noneThere(t, a, at)
	}
}

// heavier: whether what is at one place is heavier than what is at another one.
func (m *model) heavier(x, y int) bool {
	more := m.rows[x].work.Cmp(m.rows[y].work)
	return more > 0 || more == 0 && x < y
}

// noneThere: an arena must tell of nothing at what is no place.
func noneThere(t testing.TB, a *arena.Arena, at int) {
	t.Helper()
	if got, is := a.At(at); is || got != (arena.Entry{Ahead: arena.None}) {
		t.Errorf("at %d: %v, %+v", at, is, got)
	}
	if got, is := a.Spot(at); is || !sameSpot(got, rule.Spot{}) {
		t.Errorf("behind %d: %v, %+v", at, is, got)
	}
}

// sameSpot: whether two spots are the same.
func sameSpot(a, b rule.Spot) bool {
	return a.Point == b.Point && a.Prev == b.Prev && slices.Equal(a.Times, b.Times)
}

// sameRules: whether two chains' rules are the same.
func sameRules(a, b api.Params) bool {
	if !slices.Equal(a.Gates, b.Gates) || !slices.Equal(a.Checks, b.Checks) {
		return false
	}
	a.Gates, b.Gates, a.Checks, b.Checks = nil, nil, nil, nil
	return reflect.DeepEqual(a, b)
}

// badHeaders are headers that can't be, each by one number of one that can.
func badHeaders(h api.Header) []api.Header {
	var out []api.Header
	for _, n := range []int{math.MinInt, -1 << 32, -1, 1 << 32, 1<<32 + 5, math.MaxInt} {
		inTime, inBits, inNonce := h, h, h
		inTime.Time, inBits.Bits, inNonce.Nonce = n, n, n
		out = append(out, inTime, inBits, inNonce)
	}
	for _, n := range []int{math.MinInt, math.MinInt32 - 1, math.MaxInt32 + 1, math.MaxInt} {
		h.Version = n
		out = append(out, h)
	}
	return out
}

func TestP12_1NewHasTheGenesis(t *testing.T) {
	for what, genesis := range map[string]api.Header{
		"usual":           usual.Genesis,
		"empty":           {},
		"without work":    {Version: 1, Time: 50, Bits: 0x03800001},
		"of a hard bit":   {Version: 1, Time: 50, Bits: 0x1d00ffff},
		"of one try less": {Version: 1, Time: 50, Bits: 0x01010000},
		"the greatest":    {Version: 1<<31 - 1, Prev: name(1), Root: name(2), Time: 1<<32 - 1, Bits: 1<<32 - 1, Nonce: 1<<32 - 1},
		"the lowest":      {Version: -1 << 31},
		"behind noughts":  {Version: 1, Prev: api.Hash{}, Time: 50, Bits: easiest},
	} {
		p := with(usual, func(p *api.Params) { p.Genesis = genesis })
		a := made(t, p, 7)
		newModel(p, 7).same(t, a)
		x, is := a.At(0)
		if !is || x.Header != genesis || x.Ahead != arena.None || x.Height != 0 || a.Find(wantId(genesis)) != 0 || a.Len() != 1 {
			t.Errorf("%s: %v, %+v", what, is, x)
		}
		stores(t, a, genesis, math.MinInt, 0)
		if a.Len() != 1 {
			t.Errorf("%s: it is stored twice", what)
		}
	}
}

func TestP12_1TheGenesisWork(t *testing.T) {
	for bits, want := range map[int]api.Num{
		easiest:    {2},
		0x1d00ffff: {0x100010001},
		0x01010000: {0, 0, 0, 1 << 63},
		0x01020000: {0x5555555555555555, 0x5555555555555555, 0x5555555555555555, 0x5555555555555555},
		0x2100ffff: {1},
		0:          {},
		0x1d80ffff: {},
		0x23000001: {},
		1<<32 - 1:  {},
	} {
		a := made(t, with(usual, func(p *api.Params) { p.Genesis.Bits = bits }), 1)
		if x, is := a.At(0); !is || x.Work != want {
			t.Errorf("%x: %v, %x, not %x", bits, is, x.Work, want)
		}
	}
}

func TestP12_1NewByRules(t *testing.T) {
	for i, change := range []func(p *api.Params){
		func(p *api.Params) { *p = api.Params{} },
		func(p *api.Params) { p.Limit = 0 },
		func(p *api.Params) { p.Limit = -1 },
		func(p *api.Params) { p.Interval = 1 },
		func(p *api.Params) { p.Interval = 65 },
		func(p *api.Params) { p.Spacing = 0 },
		func(p *api.Params) { p.Spacing = 10001 },
		func(p *api.Params) { p.Future = -1 },
		func(p *api.Params) { p.Future = 1 << 32 },
		func(p *api.Params) { p.Genesis.Time = -1 },
		func(p *api.Params) { p.Genesis.Version = 1 << 31 },
		func(p *api.Params) { p.Gates = []api.Gate{{Height: -1}} },
		func(p *api.Params) { p.Gates = []api.Gate{{Height: 2}, {Height: 2}} },
		func(p *api.Params) { p.Checks = []api.Check{{Height: 0}} },
		func(p *api.Params) { p.Checks = []api.Check{{Height: 2}, {Height: 1}} },
	} {
		for _, room := range []int{-1, 1, 5, 513} {
			if a, e := arena.New(with(usual, change), room); a != nil || e != api.ErrArg {
				t.Errorf("%d, room %d: %v, %d", i, room, a, e)
			}
		}
	}
	for i, change := range []func(p *api.Params){
		func(p *api.Params) {},
		func(p *api.Params) { p.Easy = true },
		func(p *api.Params) { p.Interval, p.Spacing, p.Future = 2, 1, 0 },
		func(p *api.Params) { p.MinWork, p.Margin = api.Num{1, 2, 3, 4}, api.Num{5, 6, 7, 8} },
		func(p *api.Params) { p.Gates, p.Checks = []api.Gate{}, []api.Check{} },
		func(p *api.Params) {
			p.Gates, p.Checks = []api.Gate{{Height: 0, Version: 3}, {Height: 9, Version: 1}}, []api.Check{{Height: 1, Id: name(1)}, {Height: 4}}
		},
	} {
		p := with(usual, change)
		if got := made(t, p, 5).Rules(); !sameRules(got, p) {
			t.Errorf("%d: %+v, not %+v", i, got, p)
		}
	}
}

func TestP12_1NewByRoom(t *testing.T) {
	for room, want := range map[int]int{
		math.MinInt: 1, -1 << 32: 1, -5: 1, -1: 1, 0: 1, 1: 1, 2: 2, 3: 3, 100: 100, 511: 511, 512: 512, 513: 512, 1 << 32: 512, math.MaxInt: 512,
	} {
		if a := made(t, usual, room); a.Room() != want || a.Len() != 1 {
			t.Errorf("%d: %d, %d stored", room, a.Room(), a.Len())
		}
	}
}

func TestP12_1RoomIsWithTheGenesis(t *testing.T) {
	p := with(usual, func(p *api.Params) { p.Spacing = 1 })
	for room, want := range map[int]int{-3: 1, 0: 1, 1: 1, 2: 2, 3: 3, 10: 10, 511: 511, 512: 512, 513: 512, math.MaxInt: 512} {
		a := made(t, p, room)
		last := p.Genesis
		for place := 1; place < want; place++ {
			h := mined(t, api.Header{Prev: wantId(last), Time: 50 + place, Bits: mustBits(t, a, place-1, 50+place)}, true)
			stores(t, a, h, 1000, place)
			last = h
		}
		if a.Len() != want || a.Room() != want {
			t.Fatalf("%d: %d of %d", room, a.Len(), a.Room())
		}
		over := mined(t, api.Header{Prev: wantId(last), Time: 50 + want, Bits: mustBits(t, a, want-1, 50+want)}, true)
		refuses(t, a, over, 1000, rule.Fine, api.ErrFull)
		fork := mined(t, api.Header{Version: 9, Prev: wantId(p.Genesis), Time: 60, Bits: easiest}, true)
		refuses(t, a, fork, 1000, rule.Fine, api.ErrFull)
		if last != p.Genesis {
			stores(t, a, last, 0, want-1) // what is there is still found
		}
	}
}

// mustBits: which bits the next header must have behind a place.
func mustBits(t testing.TB, a *arena.Arena, at, time int) int {
	t.Helper()
	s, is := a.Spot(at)
	if !is {
		t.Fatalf("none behind %d", at)
	}
	return pace.Next(a.Rules(), s.Point, time)
}

func TestP12_1AddByHand(t *testing.T) {
	a := made(t, usual, 6)
	one := behind(t, usual.Genesis, 60, 1)
	two := behind(t, one, 70, 2)
	fork := behind(t, usual.Genesis, 65, 3)
	over := behind(t, fork, 66, 4)
	third := behind(t, two, 67, 5)
	refuses(t, a, two, 100, rule.Elsewhere, api.ErrNone)
	stores(t, a, one, 100, 1)
	stores(t, a, fork, 100, 2)
	stores(t, a, two, 100, 3)
	stores(t, a, over, 100, 4)
	stores(t, a, third, 100, 5)
	for at, want := range []arena.Entry{
		{Header: usual.Genesis, Id: wantId(usual.Genesis), Ahead: arena.None, Height: 0, Work: api.Num{2}},
		{Header: one, Id: wantId(one), Ahead: 0, Height: 1, Work: api.Num{4}},
		{Header: fork, Id: wantId(fork), Ahead: 0, Height: 1, Work: api.Num{4}},
		{Header: two, Id: wantId(two), Ahead: 1, Height: 2, Work: api.Num{6}},
		{Header: over, Id: wantId(over), Ahead: 2, Height: 2, Work: api.Num{6}},
		{Header: third, Id: wantId(third), Ahead: 3, Height: 3, Work: api.Num{8}},
	} {
		if got, is := a.At(at); !is || got != want {
			t.Errorf("at %d: %v, %+v, not %+v", at, is, got, want)
		}
		if got := a.Find(want.Id); got != at {
			t.Errorf("found at %d, not %d", got, at)
		}
	}
	for at, want := range [][]int{{50}, {60, 50}, {65, 50}, {70, 60, 50}, {66, 65, 50}, {67, 70, 60, 50}} {
		got, is := a.Spot(at)
		point := pace.Point{Height: len(want), Bits: easiest, Time: want[0], First: 50, Hard: easiest}
		x, _ := a.At(at)
		if !is || !sameSpot(got, rule.Spot{Point: point, Prev: x.Id, Times: want}) {
			t.Errorf("behind %d: %v, %+v", at, is, got)
		}
	}
	for i, h := range []api.Header{usual.Genesis, one, fork, two, over, third} {
		stores(t, a, h, math.MinInt, i)
	}
	if a.Len() != 6 {
		t.Errorf("%d", a.Len())
	}
}

func TestP12_1None(t *testing.T) {
	if arena.None != -1 {
		t.Errorf("%d", arena.None)
	}
}

func TestP12_1AddWhatCantBe(t *testing.T) {
	a := made(t, usual, 3)
	one := behind(t, usual.Genesis, 60, 1)
	stores(t, a, one, 100, 1)
	headers := append(badHeaders(behind(t, one, 70, 2)), badHeaders(one)...) // behind what is stored, and like it
	headers = append(headers, badHeaders(usual.Genesis)...)
	headers = append(headers, badHeaders(api.Header{Prev: name(1)})...) // behind nothing
	for _, h := range headers {
		refuses(t, a, h, 100, rule.NoHeader, api.ErrRule)
		refuses(t, a, h, math.MinInt, rule.NoHeader, api.ErrRule)
	}
	stores(t, a, behind(t, one, 70, 3), 100, 2)
	for _, h := range headers { // there is no room either
		refuses(t, a, h, 100, rule.NoHeader, api.ErrRule)
	}
}

func TestP12_1AddWhatHangsOnNothing(t *testing.T) {
	for _, room := range []int{2, 3} { // one without room
		a := made(t, usual, room)
		one := behind(t, usual.Genesis, 60, 1)
		stores(t, a, one, 100, 1)
		last, first := wantId(one), wantId(one)
		last[31] ^= 1
		first[0] ^= 0x80
		for _, prev := range []api.Hash{{}, name(1), last, first, one.Root} {
			h := api.Header{Version: -1, Prev: prev, Time: 1<<32 - 1, Bits: 5} // all else is wrong with it too
			refuses(t, a, h, 0, rule.Elsewhere, api.ErrNone)
			refuses(t, a, mined(t, api.Header{Version: 1, Prev: prev, Time: 70, Bits: easiest}, true), 100, rule.Elsewhere, api.ErrNone)
		}
	}
}

// spoils: how a header, or the clock, is spoilt by each reason; the header at height 2, behind blocks of the times 50 and 60, its Version is 3.
var spoils = []struct {
	want rule.Reason
	does func(t testing.TB, h api.Header, now int) (api.Header, int)
}{
	{rule.WrongBits, func(t testing.TB, h api.Header, now int) (api.Header, int) {
		h.Bits--
		return mined(t, h, true), now
	}},
	{rule.NoWork, func(t testing.TB, h api.Header, now int) (api.Header, int) { return mined(t, h, false), now }},
	{rule.TooOld, func(t testing.TB, h api.Header, now int) (api.Header, int) {
		h.Time = 60
		return mined(t, h, true), now
	}},
	{rule.TooNew, func(t testing.TB, h api.Header, now int) (api.Header, int) { return h, h.Time - 101 }},
	{rule.OldVersion, func(t testing.TB, h api.Header, now int) (api.Header, int) {
		h.Version = 2
		return mined(t, h, true), now
	}},
	{rule.OffTrack, func(t testing.TB, h api.Header, now int) (api.Header, int) {
		h.Root[5]++
		return mined(t, h, true), now
	}},
}

// tracked: rules with gates and checks, and headers at the heights 1 and 2 that pass them.
func tracked(t testing.TB) (api.Params, api.Header, api.Header) {
	t.Helper()
	one := mined(t, api.Header{Version: 2, Prev: wantId(usual.Genesis), Time: 60, Bits: easiest}, true)
	two := mined(t, api.Header{Version: 3, Prev: wantId(one), Time: 70, Bits: easiest}, true)
	p := usual
	p.Gates = []api.Gate{{Height: 0, Version: 2}, {Height: 2, Version: 3}, {Height: 3, Version: 4}}
	p.Checks = []api.Check{{Height: 2, Id: wantId(two)}}
	return p, one, two
}

func TestP12_1AddWhatIsWrong(t *testing.T) {
	p, one, two := tracked(t)
	for _, spoil := range spoils {
		h, now := spoil.does(t, two, 100)
		for _, room := range []int{2, 3} { // what is wrong is told ahead of there being no room
			a := made(t, p, room)
			refuses(t, a, h, now, rule.Elsewhere, api.ErrNone)
			stores(t, a, one, 100, 1)
			refuses(t, a, h, now, spoil.want, api.ErrRule)
		}
		a := made(t, p, 3)
		stores(t, a, one, 100, 1)
		refuses(t, a, h, now, spoil.want, api.ErrRule)
		stores(t, a, two, 100, 2)
		if spoil.want == rule.TooNew {
			stores(t, a, h, now, 2) // what is there is found by any clock
		} else {
			refuses(t, a, h, now, spoil.want, api.ErrRule)
		}
	}
}

func TestP12_1AddByTheClock(t *testing.T) {
	h := behind(t, usual.Genesis, 1060, 1)
	a := made(t, usual, 3)
	for _, now := range []int{-1 << 40, -1, 0, 50, 958, 959} {
		refuses(t, a, h, now, rule.TooNew, api.ErrRule)
	}
	stores(t, a, h, 960, 1)
	for _, now := range []int{960, 961, 1 << 32, math.MaxInt} {
		a := made(t, usual, 3)
		stores(t, a, h, now, 1)
		stores(t, a, h, 0, 1)
	}
}

func TestP12_1AddWhereThereIsNoRoom(t *testing.T) {
	a := made(t, usual, 1)
	one := behind(t, usual.Genesis, 60, 1)
	refuses(t, a, one, 100, rule.Fine, api.ErrFull)
	refuses(t, a, behind(t, one, 70, 2), 100, rule.Elsewhere, api.ErrNone)
	refuses(t, a, one, -41, rule.TooNew, api.ErrRule)
	refuses(t, a, one, -40, rule.Fine, api.ErrFull)
	refuses(t, a, mined(t, api.Header{Prev: one.Prev, Time: 60, Bits: easiest}, false), 100, rule.NoWork, api.ErrRule)
	stores(t, a, usual.Genesis, -41, 0)
	a = made(t, usual, 2)
	stores(t, a, one, 100, 1)
	refuses(t, a, behind(t, one, 70, 2), 100, rule.Fine, api.ErrFull)
	stores(t, a, one, 100, 1)
}

func TestP12_1NoSuchPlaceOrName(t *testing.T) {
	a := made(t, usual, 5)
	stores(t, a, behind(t, usual.Genesis, 60, 1), 100, 1)
	for _, at := range append([]int{2, 3, 4, 5, 6}, noPlaces...) {
		noneThere(t, a, at)
	}
	near := wantId(usual.Genesis)
	near[31] ^= 1
	for _, id := range []api.Hash{{}, name(1), near, wantId(behind(t, usual.Genesis, 60, 2))} {
		if got := a.Find(id); got != arena.None {
			t.Errorf("%x: %d", id, got)
		}
	}
}

func TestP12_1HeavierByHand(t *testing.T) {
	a := made(t, usual, 9)
	one := behind(t, usual.Genesis, 60, 1)
	fork := behind(t, usual.Genesis, 61, 2)
	two := behind(t, one, 70, 3)
	twin := behind(t, one, 71, 4)
	for i, h := range []api.Header{one, fork, two, twin} {
		stores(t, a, h, 100, i+1)
	}
	order := []int{3, 4, 1, 2, 0} // the heaviest first
	for i, x := range order {
		for j, y := range order {
			if got := a.Heavier(x, y); got != (i < j) {
				t.Errorf("%d, %d: %v", x, y, got)
			}
		}
		for _, y := range append([]int{5, 6, 8, 9}, noPlaces...) {
			if !a.Heavier(x, y) || a.Heavier(y, x) {
				t.Errorf("%d and %d, which is no place: %v, %v", x, y, a.Heavier(x, y), a.Heavier(y, x))
			}
		}
	}
	for _, x := range noPlaces {
		for _, y := range noPlaces {
			if a.Heavier(x, y) {
				t.Errorf("%d, %d: none is a place", x, y)
			}
		}
	}
}

func TestP12_1WorkIsOfFourWords(t *testing.T) {
	for _, c := range []struct {
		bits int
		low  uint64 // the genesis' lowest word
		high uint64 // its highest one
	}{
		{0x01010000, 0, 1 << 63},
		{0x01030000, 0, 1 << 62},
		{0x01020000, 0x5555555555555555, 0x5555555555555555},
		{0x1d00ffff, 0x100010001, 0},
		{0, 0, 0},
	} {
		p := with(usual, func(p *api.Params) { p.Easy, p.Genesis.Bits = true, c.bits })
		a := made(t, p, 9)
		one := behind(t, p.Genesis, 71, 1) // late, and easy thereby
		two, fork := behind(t, one, 92, 2), behind(t, p.Genesis, 72, 3)
		for i, h := range []api.Header{one, two, fork} {
			stores(t, a, h, 1000, i+1)
		}
		for at, more := range []uint64{0, 2, 4, 2} {
			x, is := a.At(at)
			if !is || x.Work[0] != c.low+more || x.Work[3] != c.high {
				t.Errorf("%x, at %d: %v, %x", c.bits, at, is, x.Work)
			}
		}
		order := []int{2, 1, 3, 0}
		for i, x := range order {
			for j, y := range order {
				if got := a.Heavier(x, y); got != (i < j) {
					t.Errorf("%x: %d, %d: %v", c.bits, x, y, got)
				}
			}
		}
	}
}

func TestP12_1HeavierIsNotLonger(t *testing.T) {
	p := with(usual, func(p *api.Params) { p.Interval, p.Spacing = 2, 100 })
	a := made(t, p, 20)
	slow := p.Genesis
	for i := range 4 { // of a period that takes as long as it should, or longer, it stays easy
		slow = behind(t, slow, 1000*(i+1), i)
		stores(t, a, slow, 1<<20, i+1)
	}
	quick := mined(t, api.Header{Version: 1, Prev: wantId(p.Genesis), Time: 51, Bits: easiest}, true)
	stores(t, a, quick, 1<<20, 5)
	hard := mustBits(t, a, 5, 52)
	quick = mined(t, api.Header{Version: 1, Prev: wantId(quick), Time: 52, Bits: hard}, true)
	stores(t, a, quick, 1<<20, 6)
	if hard != 0x201fffff || !a.Heavier(6, 4) || a.Heavier(4, 6) || a.Heavier(5, 4) {
		long, _ := a.At(4)
		short, _ := a.At(6)
		t.Errorf("%x: %+v, %+v", hard, short, long)
	}
	if x, _ := a.At(6); x.Height != 2 || x.Work != (api.Num{12}) {
		t.Errorf("%+v", x)
	}
	refuses(t, a, behind(t, quick, 53, 1), 1<<20, rule.WrongBits, api.ErrRule)
}

func TestP12_1NilArena(t *testing.T) {
	var a *arena.Arena
	for _, h := range append(badHeaders(usual.Genesis), usual.Genesis, api.Header{}, behind(t, usual.Genesis, 60, 1)) {
		if at, why, e := a.Add(h, 100); at != arena.None || why != rule.Fine || e != api.ErrNil {
			t.Errorf("%+v: %d, %d, %d", h, at, why, e)
		}
	}
	for _, at := range append([]int{0, 1}, noPlaces...) {
		noneThere(t, a, at)
		if a.Heavier(at, 0) || a.Heavier(0, at) || a.Heavier(at, -1) {
			t.Errorf("%d is heavier", at)
		}
	}
	if a.Find(api.Hash{}) != arena.None || a.Find(wantId(usual.Genesis)) != arena.None {
		t.Error("a name is found")
	}
	if a.Len() != 0 || a.Room() != 0 || !sameRules(a.Rules(), api.Params{}) {
		t.Errorf("%d, %d, %+v", a.Len(), a.Room(), a.Rules())
	}
}

func TestP12_1WhatIsHandedInStaysAndIsntKept(t *testing.T) {
	p, one, two := tracked(t)
	gates := append(slices.Clone(p.Gates), api.Gate{Height: 7, Version: 7}, api.Gate{Height: 8, Version: 8})
	checks := append(slices.Clone(p.Checks), api.Check{Height: 7, Id: name(7)}, api.Check{Height: 8, Id: name(8)})
	wasGates, wasChecks := slices.Clone(gates), slices.Clone(checks)
	handed := p
	handed.Gates, handed.Checks = gates[:3], checks[:1] // with spare room
	a := made(t, handed, 9)
	stores(t, a, one, 100, 1)
	got := a.Rules()
	_ = append(got.Gates, api.Gate{Height: 9})
	_ = append(got.Checks, api.Check{Height: 9})
	if !slices.Equal(gates, wasGates) || !slices.Equal(checks, wasChecks) {
		t.Fatalf("%+v, %+v", gates, checks)
	}
	for i := range gates {
		gates[i] = api.Gate{Height: 0, Version: math.MaxInt}
	}
	for i := range checks {
		checks[i] = api.Check{Height: 2, Id: name(i)}
	}
	if !sameRules(a.Rules(), p) {
		t.Errorf("%+v, not %+v", a.Rules(), p)
	}
	stores(t, a, two, 100, 2)
}

func TestP12_1WhatIsToldIsNew(t *testing.T) {
	p, one, two := tracked(t)
	a := made(t, p, 9)
	stores(t, a, one, 100, 1)
	was := shotOf(a)
	for range 2 {
		told := a.Rules()
		for i := range told.Gates {
			told.Gates[i] = api.Gate{Height: 0, Version: math.MaxInt}
		}
		for i := range told.Checks {
			told.Checks[i] = api.Check{Height: 2}
		}
		for at := range a.Len() {
			s, _ := a.Spot(at)
			for i := range s.Times[:cap(s.Times)] {
				s.Times[:cap(s.Times)][i] = 1 << 40
			}
		}
	}
	if now := shotOf(a); !reflect.DeepEqual(now, was) {
		t.Errorf("%+v, not %+v", now, was)
	}
	stores(t, a, two, 100, 2)
	newer, _ := a.Spot(2)
	if !slices.Equal(newer.Times, []int{70, 60, 50}) {
		t.Errorf("%d", newer.Times)
	}
}

func TestP12_1WhatWasToldStaysWhileItGrows(t *testing.T) {
	a := made(t, usual, 60)
	last := usual.Genesis
	var spots []rule.Spot
	var times []int
	for i := range 40 {
		s, _ := a.Spot(i)
		spots, times = append(spots, s), append([]int{last.Time}, times...)
		last = behind(t, last, 60+i, i)
		stores(t, a, last, 1000, i+1)
	}
	for i, s := range spots {
		want := times[len(times)-1-i:]
		if want = want[:min(11, len(want))]; !slices.Equal(s.Times, want) {
			t.Errorf("behind %d: %d, not %d", i, s.Times, want)
		}
	}
}

func TestP12_1TwoArenasKnowNothingOfOneAnother(t *testing.T) {
	p, one, two := tracked(t)
	a, b := made(t, p, 9), made(t, p, 2)
	stores(t, a, one, 100, 1)
	stores(t, a, two, 100, 2)
	if b.Len() != 1 || b.Find(wantId(one)) != arena.None {
		t.Errorf("%d", b.Len())
	}
	refuses(t, b, two, 100, rule.Elsewhere, api.ErrNone)
	c := made(t, a.Rules(), 9)
	stores(t, b, one, 100, 1)
	if a.Len() != 3 || b.Len() != 2 || c.Len() != 1 || c.Find(wantId(one)) != arena.None {
		t.Errorf("%d, %d, %d", a.Len(), b.Len(), c.Len())
	}
}

// ruleSets are rules of all kinds; of those with checks the header that these ask for comes with them.
func ruleSets(t testing.TB) ([]api.Params, []api.Header) {
	t.Helper()
	p, one, two := tracked(t)
	long := with(usual, func(p *api.Params) { p.Interval, p.Future = 7, 0 })
	short := with(usual, func(p *api.Params) { p.Interval, p.Genesis.Bits = 2, 0x201fffff })
	easy := with(usual, func(p *api.Params) { p.Interval, p.Easy, p.Genesis.Bits = 3, true, 0x201fffff })
	wide := with(usual, func(p *api.Params) { p.Interval, p.Easy, p.Genesis.Bits = 4, true, 0x01010000 })
	gated := with(usual, func(p *api.Params) {
		p.Gates = []api.Gate{{Height: 1, Version: 1}, {Height: 3, Version: 4}, {Height: 6, Version: 2}}
	})
	return []api.Params{usual, long, short, easy, wide, gated, p}, []api.Header{one, two}
}

// child: a header behind a chain that is right there, if a time's target isn't too hard to be met soon.
func child(t testing.TB, r *rand.Rand, p api.Params, chain []api.Header) (api.Header, bool) {
	t.Helper()
	at := wantSpot(p, chain)
	times := slices.Clone(at.Times)
	slices.Sort(times)
	h := api.Header{Version: 1 + r.Intn(5), Prev: at.Prev, Root: name(r.Intn(200))}
	h.Time = max(at.Time+r.Intn(30), times[len(times)/2]+1)
	h.Bits = pace.Next(p, at.Point, h.Time)
	if h.Bits < 0x2003ffff {
		return api.Header{}, false
	}
	return mined(t, h, true), true
}

// spoilt: a header with something changed, at random; one whose target is too hard to be met soon as it is.
func spoilt(t testing.TB, r *rand.Rand, h api.Header) api.Header {
	t.Helper()
	if h.Bits < 0x2003ffff {
		return h
	}
	switch r.Intn(7) {
	case 0:
		list := badHeaders(h)
		return list[r.Intn(len(list))]
	case 1:
		h.Prev[r.Intn(32)] ^= 1 << r.Intn(8)
	case 2:
		h.Bits = []int{easiest, h.Bits - 1, 0x201fffff, 0x2007ffff}[r.Intn(4)]
	case 3:
		return mined(t, h, false)
	case 4:
		h.Time -= r.Intn(50)
	case 5:
		h.Version = r.Intn(4)
	case 6:
		h.Root[r.Intn(32)]++
	}
	return mined(t, h, true)
}

// play: headers, right and wrong ones, early and late and twice, come to an arena and its model, which must agree in all; how often each answer came.
func play(t testing.TB, r *rand.Rand, p api.Params, room int, first []api.Header) (*arena.Arena, *model, map[[2]int]int) {
	t.Helper()
	a, m, all := made(t, p, room), newModel(p, room), newModel(p, 1<<20)
	seen := map[[2]int]int{}
	give := func(h api.Header, now int) {
		t.Helper()
		wantAt, wantWhy, wantError := m.add(h, now)
		at, why, e := a.Add(h, now)
		if at != wantAt || why != wantWhy || e != wantError {
			t.Fatalf("%+v by %d: %d, %d, %d, not %d, %d, %d", h, now, at, why, e, wantAt, wantWhy, wantError)
		}
		m.same(t, a)
		seen[[2]int{int(why), int(e)}]++
	}
	for _, h := range first {
		all.add(h, 1<<32)
		give(h, 1<<32)
	}
	for range 200 {
		clock := []int{1 << 32, 1 << 32, 1 << 32, 60 + r.Intn(600), -r.Intn(100)}[r.Intn(5)]
		known := all.rows[max(r.Intn(len(all.rows)), r.Intn(len(all.rows)))].h
		switch r.Intn(4) {
		case 0: // once more, or one that was held back
			give(known, clock)
		case 1:
			give(spoilt(t, r, all.rows[len(all.rows)-1].h), clock)
		default:
			h, found := child(t, r, p, all.chain(all.find(wantId(known))))
			if !found {
				continue
			}
			all.add(h, 1<<32)
			if r.Intn(5) > 0 {
				give(h, clock)
			}
			if r.Intn(5) > 0 { // by a later clock, if it came too early
				give(h, 1<<32)
			}
		}
	}
	return a, m, seen
}

func TestP12_1AnyOrder(t *testing.T) {
	r := rand.New(rand.NewSource(12))
	sets, first := ruleSets(t)
	seen := map[[2]int]int{}
	later := 0 // how often a heavier one came later; how often it was lower
	lower := 0
	for i, p := range sets {
		ahead := first
		if len(p.Checks) == 0 {
			ahead = nil
		}
		for _, room := range []int{1, 2, 5, 20, 512} {
			a, m, saw := play(t, r, p, room, ahead)
			for answer, n := range saw {
				seen[answer] += n
			}
			for x := range m.rows {
				for y := range m.rows {
					want := m.heavier(x, y)
					if got := a.Heavier(x, y); got != want {
						t.Fatalf("%d, room %d: %d, %d: %v, not %v", i, room, x, y, got, want)
					}
					if want && x > y {
						later++
					}
					if want && m.rows[x].height < m.rows[y].height {
						lower++
					}
				}
			}
		}
	}
	for why, e := range []api.Errno{api.OK, api.ErrRule, api.ErrNone, api.ErrRule, api.ErrRule, api.ErrRule, api.ErrRule, api.ErrRule, api.ErrRule} {
		if seen[[2]int{why, int(e)}] < 5 {
			t.Errorf("too few for a test: %d, %d: %d times", why, e, seen[[2]int{why, int(e)}])
		}
	}
	if full := seen[[2]int{0, int(api.ErrFull)}]; full < 20 || later < 100 || lower < 100 {
		t.Errorf("too few for a test: %d full, %d later, %d lower", full, later, lower)
	}
}

// passes: each header of an arena must hang on a stored one, down to the genesis, and pass the rules behind those ahead of it, by the clock by which it came.
func passes(t testing.TB, p api.Params, a *arena.Arena, clocks []int) {
	t.Helper()
	for at := range a.Len() {
		x, is := a.At(at)
		if !is {
			t.Fatalf("none at %d", at)
		}
		if at == 0 {
			if x.Header != p.Genesis || x.Ahead != arena.None || x.Height != 0 {
				t.Fatalf("%+v", x)
			}
			continue
		}
		var chain []api.Header
		for ahead, steps := x.Ahead, 0; ahead != arena.None; steps++ {
			y, is := a.At(ahead)
			if !is || ahead >= at || steps >= at {
				t.Fatalf("at %d: %d is ahead", at, ahead)
			}
			chain = append(chain, y.Header)
			ahead = y.Ahead
		}
		slices.Reverse(chain)
		if chain[0] != p.Genesis || len(chain) != x.Height || x.Header.Prev != wantId(chain[len(chain)-1]) {
			t.Fatalf("at %d: %+v behind %+v", at, x, chain)
		}
		if why := rule.Check(p, wantSpot(p, chain), x.Header, clocks[at]); why != rule.Fine {
			t.Fatalf("at %d: %+v, %d", at, x, why)
		}
	}
}

func TestP12_2EachStoredOnePasses(t *testing.T) {
	r := rand.New(rand.NewSource(122))
	sets, first := ruleSets(t)
	stored := 0
	for _, p := range sets {
		ahead := first
		if len(p.Checks) == 0 {
			ahead = nil
		}
		for _, room := range []int{3, 512} {
			a, m, _ := play(t, r, p, room, ahead)
			var clocks []int
			for _, row := range m.rows {
				clocks = append(clocks, row.clock)
			}
			passes(t, p, a, clocks)
			stored += a.Len()
		}
	}
	if stored < 200 {
		t.Errorf("too few for a test: %d", stored)
	}
}

func TestP12_2WhatIsWrongIsNeverStored(t *testing.T) {
	p, one, two := tracked(t)
	a := made(t, p, 9)
	clocks := []int{0}
	give := func(h api.Header, now int) {
		if at, _, _ := a.Add(h, now); at == len(clocks) {
			clocks = append(clocks, now)
		}
	}
	for range 2 { // behind what isn't stored as yet, then behind what is
		for _, spoil := range spoils {
			give(spoil.does(t, two, 100))
			wrong, now := spoil.does(t, two, 100)
			give(mined(t, api.Header{Version: 4, Prev: wantId(wrong), Time: wrong.Time + 1, Bits: easiest}, true), now+1) // nor what hangs on it
		}
		give(one, 100)
	}
	passes(t, p, a, clocks)
	if a.Len() != 2 {
		t.Errorf("%d", a.Len())
	}
	give(two, 100)
	give(mined(t, api.Header{Version: 4, Prev: wantId(two), Time: 71, Bits: easiest}, true), -29)
	passes(t, p, a, clocks)
	if a.Len() != 4 || !slices.Equal(clocks, []int{0, 100, 100, -29}) {
		t.Errorf("%d, %d", a.Len(), clocks)
	}
}

func TestP12_2ByTheClockByWhichItCame(t *testing.T) {
	a := made(t, usual, 9)
	one := behind(t, usual.Genesis, 160, 1)
	two := behind(t, one, 161, 2)
	stores(t, a, one, 60, 1)
	refuses(t, a, two, 60, rule.TooNew, api.ErrRule)
	stores(t, a, one, 0, 1) // a clock that went back takes nothing away
	refuses(t, a, behind(t, one, 162, 3), 61, rule.TooNew, api.ErrRule)
	stores(t, a, two, 61, 2)
	passes(t, usual, a, []int{0, 60, 61})
}
