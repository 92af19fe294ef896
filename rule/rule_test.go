package rule_test

import (
	"crypto/sha256"
	"encoding/binary"
	"math"
	"math/big"
	"math/rand"
	"slices"
	"testing"

	"trailhead/api"
	"trailhead/header"
	"trailhead/pace"
	"trailhead/rule"
)

// usual are rules that can be; every other name meets their limit.
var usual = api.Params{
	Limit: 0x207fffff, Interval: 4, Spacing: 10, Future: 100,
	Genesis: api.Header{Version: 1, Time: 50, Bits: 0x207fffff},
}

// edges are numbers about what an int, and what a header's number holds, and about nought.
var edges = []int{
	math.MinInt, math.MinInt + 1, -1 << 32, math.MinInt32 - 1, math.MinInt32, math.MinInt32 + 1, -2, -1, 0, 1, 2,
	math.MaxInt32, math.MaxInt32 + 1, math.MaxUint32, 1 << 32, math.MaxInt - 1, math.MaxInt,
}

// name: a name of other bytes for each number.
func name(seed int) api.Hash {
	var out api.Hash
	for i := range out {
		out[i] = byte(seed + 7*i)
	}
	return out
}

// with: rules with something changed.
func with(p api.Params, change func(p *api.Params)) api.Params {
	change(&p)
	return p
}

// wantId: the name of a header that can be, by another's SHA-256.
func wantId(h api.Header) api.Hash {
	s := binary.LittleEndian.AppendUint32(nil, uint32(h.Version))
	s = append(s, h.Prev[:]...)
	s = append(s, h.Root[:]...)
	for _, n := range []int{h.Time, h.Bits, h.Nonce} {
		s = binary.LittleEndian.AppendUint32(s, uint32(n))
	}
	inner := sha256.Sum256(s)
	return sha256.Sum256(inner[:])
}

// asNumber: a name as a number without bounds.
func asNumber(id api.Hash) *big.Int {
	slices.Reverse(id[:])
	return new(big.Int).SetBytes(id[:])
}

// wantTarget: what is in short, as a number without bounds; false: it is none.
func wantTarget(bits int) (*big.Int, bool) {
	if bits < 0 || bits > math.MaxUint32 || bits&(1<<23) != 0 {
		return nil, false
	}
	n := big.NewInt(int64(bits & 0x7fffff))
	if n.Lsh(n, uint(8*(bits>>24))).Rsh(n, 24); n.Sign() == 0 || n.BitLen() > 256 {
		return nil, false
	}
	return n, true
}

// wantWork: whether bits are a target that isn't easier than a limit's, and a header's name isn't above it.
func wantWork(limit int, h api.Header) bool {
	target, ok := wantTarget(h.Bits)
	most, okToo := wantTarget(limit)
	return ok && okToo && target.Cmp(most) <= 0 && asNumber(wantId(h)).Cmp(target) <= 0
}

// mined: a header whose name meets its target (or doesn't, if that is asked for), by its number.
func mined(t testing.TB, h api.Header, meets bool) api.Header {
	t.Helper()
	target, ok := wantTarget(h.Bits)
	if !ok {
		t.Fatalf("%x is no target", h.Bits)
	}
	for range 1 << 16 {
		if asNumber(wantId(h)).Cmp(target) <= 0 == meets {
			return h
		}
		h.Nonce++
	}
	t.Fatalf("no number for %+v", h)
	return h
}

// gatesAt, checksAt: gates and checks at heights.
func gatesAt(heights ...int) []api.Gate {
	var out []api.Gate
	for i, height := range heights {
		out = append(out, api.Gate{Height: height, Version: i})
	}
	return out
}

func checksAt(heights ...int) []api.Check {
	var out []api.Check
	for i, height := range heights {
		out = append(out, api.Check{Height: height, Id: name(i)})
	}
	return out
}

func TestP11_1Good(t *testing.T) {
	for what, p := range map[string]api.Params{
		"usual ones":           usual,
		"easy ones":            with(usual, func(p *api.Params) { p.Easy = true }),
		"the lowest numbers":   with(usual, func(p *api.Params) { p.Interval, p.Spacing, p.Future = 2, 1, 0 }),
		"the greatest numbers": with(usual, func(p *api.Params) { p.Interval, p.Spacing, p.Future = 64, 10000, 1<<32-1 }),
		"an empty genesis":     with(usual, func(p *api.Params) { p.Genesis = api.Header{} }),
		"the lowest genesis":   with(usual, func(p *api.Params) { p.Genesis.Version = math.MinInt32 }),
		"the greatest genesis": with(usual, func(p *api.Params) {
			p.Genesis = api.Header{Version: 1<<31 - 1, Prev: name(1), Root: name(2), Time: 1<<32 - 1, Bits: 1<<32 - 1, Nonce: 1<<32 - 1}
		}),
		"a genesis without work":         with(usual, func(p *api.Params) { p.Genesis.Bits = 0x03000001 }),
		"a genesis of too low a version": with(usual, func(p *api.Params) { p.Gates = []api.Gate{{Height: 0, Version: 2}} }),
		"work": with(usual, func(p *api.Params) {
			p.MinWork, p.Margin = api.Num{1, 2, 3, 4}, api.Num{math.MaxUint64, 0, 0, math.MaxUint64}
		}),
		"none of the lists": with(usual, func(p *api.Params) { p.Gates, p.Checks = []api.Gate{}, []api.Check{} }),
		"any versions": with(usual, func(p *api.Params) {
			p.Gates = []api.Gate{{Height: 0, Version: math.MaxInt}, {Height: 1, Version: math.MinInt}, {Height: 2, Version: 5}, {Height: 3, Version: 5}}
		}),
		"one name twice":   with(usual, func(p *api.Params) { p.Checks = []api.Check{{Height: 1}, {Height: 2}} }),
		"gates and checks": with(usual, func(p *api.Params) { p.Gates, p.Checks = gatesAt(3, 5), checksAt(3, 4, 5) }),
	} {
		if !rule.Good(p) {
			t.Errorf("%s can't be", what)
		}
	}
}

func TestP11_1GoodByPaceAndGenesis(t *testing.T) {
	for i, change := range []func(p *api.Params){
		func(p *api.Params) { *p = api.Params{} },
		func(p *api.Params) { p.Limit = 0 },
		func(p *api.Params) { p.Limit = 0x20ffffff },
		func(p *api.Params) { p.Limit = 0x23000001 },
		func(p *api.Params) { p.Limit = -1 },
		func(p *api.Params) { p.Limit = 1 << 32 },
		func(p *api.Params) { p.Interval = 1 },
		func(p *api.Params) { p.Interval = 65 },
		func(p *api.Params) { p.Interval = math.MinInt },
		func(p *api.Params) { p.Spacing = 0 },
		func(p *api.Params) { p.Spacing = 10001 },
		func(p *api.Params) { p.Future = -1 },
		func(p *api.Params) { p.Future = 1 << 32 },
		func(p *api.Params) { p.Genesis.Version = math.MaxInt32 + 1 },
		func(p *api.Params) { p.Genesis.Version = math.MinInt32 - 1 },
		func(p *api.Params) { p.Genesis.Time = -1 },
		func(p *api.Params) { p.Genesis.Time = 1 << 32 },
		func(p *api.Params) { p.Genesis.Bits = -1 },
		func(p *api.Params) { p.Genesis.Bits = 1 << 32 },
		func(p *api.Params) { p.Genesis.Nonce = -1 },
		func(p *api.Params) { p.Genesis.Nonce = math.MaxInt },
	} {
		if p := with(usual, change); rule.Good(p) {
			t.Errorf("%d: %+v can be", i, p)
		}
	}
}

func TestP11_1GoodByHeightsThatRise(t *testing.T) {
	for _, c := range []struct {
		heights       []int
		gates, checks bool
	}{
		{nil, true, true},
		{[]int{0}, true, false},
		{[]int{1}, true, true},
		{[]int{-1}, false, false},
		{[]int{math.MinInt}, false, false},
		{[]int{math.MaxInt}, true, true},
		{[]int{0, 1}, true, false},
		{[]int{1, 2, 3, 1000}, true, true},
		{[]int{1, 1}, false, false},
		{[]int{0, 0}, false, false},
		{[]int{2, 1}, false, false},
		{[]int{1, 0}, false, false},
		{[]int{-1, 1}, false, false},
		{[]int{-2, -1}, false, false},
		{[]int{5, -1}, false, false},
		{[]int{1, 2, 2, 3}, false, false},
		{[]int{1, 2, 3, 3}, false, false},
		{[]int{1, 3, 2, 4}, false, false},
		{[]int{5, 6, 1, 2}, false, false},
		{[]int{1, math.MaxInt}, true, true},
		{[]int{0, math.MaxInt}, true, false},
		{[]int{math.MaxInt, 1}, false, false},
		{[]int{math.MaxInt, math.MaxInt}, false, false},
		{[]int{math.MinInt, math.MaxInt}, false, false},
		{[]int{math.MaxInt, math.MinInt}, false, false},
		{[]int{1, math.MaxInt, math.MinInt}, false, false},
	} {
		p := usual
		p.Gates = gatesAt(c.heights...)
		if got := rule.Good(p); got != c.gates {
			t.Errorf("gates at %d: %v", c.heights, got)
		}
		p.Checks = checksAt(c.heights...)
		if got := rule.Good(p); got != (c.gates && c.checks) {
			t.Errorf("gates and checks at %d: %v", c.heights, got)
		}
		p.Gates = nil
		if got := rule.Good(p); got != c.checks {
			t.Errorf("checks at %d: %v", c.heights, got)
		}
	}
}

func TestP11_1Version(t *testing.T) {
	rising := []api.Gate{{Height: 2, Version: 3}, {Height: 5, Version: 7}, {Height: 9, Version: 4}}
	mixed := []api.Gate{{Height: 9, Version: 4}, {Height: 2, Version: 3}, {Height: 5, Version: 7}, {Height: 5, Version: 1}}
	low := []api.Gate{{Height: 0, Version: -1 << 40}, {Height: 3, Version: math.MinInt32 + 1}, {Height: 4, Version: math.MinInt32}}
	below := []api.Gate{{Height: -7, Version: -6}, {Height: math.MinInt, Version: -8}, {Height: math.MaxInt, Version: math.MaxInt}}
	for _, c := range []struct {
		height int
		gates  []api.Gate
		want   int
	}{
		{0, nil, math.MinInt32}, {math.MaxInt, nil, math.MinInt32}, {5, []api.Gate{}, math.MinInt32},
		{1, rising, math.MinInt32}, {2, rising, 3}, {3, rising, 3}, {4, rising, 3}, {5, rising, 7}, {8, rising, 7}, {9, rising, 7}, {1 << 40, rising, 7},
		{-1, rising, math.MinInt32}, {math.MinInt, rising, math.MinInt32}, {math.MaxInt, rising, 7},
		{1, mixed, math.MinInt32}, {2, mixed, 3}, {4, mixed, 3}, {5, mixed, 7}, {9, mixed, 7},
		{0, low, math.MinInt32}, {2, low, math.MinInt32}, {3, low, math.MinInt32 + 1}, {4, low, math.MinInt32 + 1},
		{math.MinInt, below, -8}, {-8, below, -8}, {-7, below, -6}, {0, below, -6}, {math.MaxInt - 1, below, -6}, {math.MaxInt, below, math.MaxInt},
		{0, []api.Gate{{}}, 0}, {-1, []api.Gate{{}}, math.MinInt32},
	} {
		if got := rule.Version(c.height, c.gates...); got != c.want {
			t.Errorf("%d, %v: %d, not %d", c.height, c.gates, got, c.want)
		}
	}
}

func TestP11_1Tracked(t *testing.T) {
	one, other := name(1), name(2)
	last, first := one, one
	last[31]++
	first[0]++
	two := []api.Check{{Height: 3, Id: one}, {Height: 7, Id: other}}
	for _, c := range []struct {
		height int
		id     api.Hash
		checks []api.Check
		want   bool
	}{
		{3, one, nil, true}, {3, one, []api.Check{}, true},
		{3, one, two, true}, {3, other, two, false}, {3, api.Hash{}, two, false}, {3, first, two, false}, {3, last, two, false},
		{7, other, two, true}, {7, one, two, false},
		{2, other, two, true}, {4, other, two, true}, {6, one, two, true}, {8, one, two, true}, {0, one, two, true}, {-3, other, two, true},
		{math.MinInt, other, two, true}, {math.MaxInt, one, two, true},
		{0, one, []api.Check{{}}, false}, {0, api.Hash{}, []api.Check{{}}, true}, {1, one, []api.Check{{}}, true},
		{-5, one, []api.Check{{Height: -5, Id: other}}, false}, {-5, one, []api.Check{{Height: -5, Id: one}}, true},
		{math.MinInt, one, []api.Check{{Height: math.MinInt, Id: other}}, false}, {math.MaxInt, one, []api.Check{{Height: math.MaxInt, Id: other}}, false},
		{7, one, []api.Check{{Height: 7, Id: one}, {Height: 3, Id: other}, {Height: 7, Id: other}}, false},
		{7, other, []api.Check{{Height: 7, Id: one}, {Height: 3, Id: other}, {Height: 7, Id: other}}, false},
		{7, one, []api.Check{{Height: 9, Id: other}, {Height: 7, Id: one}, {Height: 7, Id: one}, {Height: 3, Id: other}}, true},
	} {
		if got := rule.Tracked(c.height, c.id, c.checks...); got != c.want {
			t.Errorf("%d, %x, %+v: %v", c.height, c.id, c.checks, got)
		}
	}
}

// badHeaders are headers that can't be, each by one number of one that can.
func badHeaders(h api.Header) []api.Header {
	var out []api.Header
	for _, n := range []int{math.MinInt, -1 << 32, -1, 1 << 32, 1<<32 + 5, math.MaxInt} {
		inTime, inBits, inNonce := h, h, h
		inTime.Time, inBits.Bits, inNonce.Nonce = n, n, n
		out = append(out, inTime, inBits, inNonce)
	}
	for _, n := range []int{math.MinInt, math.MinInt32 - 1, math.MaxInt32 + 1, math.MaxInt} {
		h.Version = n
		out = append(out, h)
	}
	return out
}

func TestP11_1Itself(t *testing.T) {
	limits := []int{0x207fffff, 0x2007ffff, 0x200fffff, 0x1d00ffff, 0x2100ffff, 0x220000ff, 0x03000001, 0, -1, 1 << 32, 0x20ffffff, 0x23000001}
	for _, limit := range limits {
		p := with(usual, func(p *api.Params) { p.Limit = limit })
		for _, bits := range append([]int{limit - 1, limit + 1, 0x207ffffe, 0x20800000, 0x21008000, 0x03000001, 0x1f00ffff, 0x04923456, 0x217fffff, 0xffffffff}, limits...) {
			for seed := range 20 {
				h := api.Header{Version: seed, Root: name(seed), Bits: bits}
				want := rule.Fine
				if bits < 0 || bits > math.MaxUint32 {
					want = rule.NoHeader
				} else if !wantWork(limit, h) {
					want = rule.NoWork
				}
				if got := rule.Itself(p, h); got != want {
					t.Fatalf("%x, %+v: %d, not %d", limit, h, got, want)
				}
			}
		}
	}
}

func TestP11_1ItselfByHand(t *testing.T) {
	met := mined(t, api.Header{Version: 1, Bits: 0x2007ffff}, true)
	for _, c := range []struct {
		limit int
		h     api.Header
		want  rule.Reason
	}{
		{0x2007ffff, met, rule.Fine},
		{0x207fffff, met, rule.Fine}, // it asks for more than it must
		{0x20080000, met, rule.Fine},
		{0x2007fffe, met, rule.NoWork},
		{0x1d00ffff, met, rule.NoWork},
		{0, met, rule.NoWork},
		{-1, met, rule.NoWork},
		{0x20ffffff, met, rule.NoWork},
		{0x207fffff, mined(t, api.Header{Version: 1, Bits: 0x2007ffff}, false), rule.NoWork},
		{0x207fffff, api.Header{}, rule.NoWork},
		{0x1d00ffff, api.Header{Version: 1 << 31}, rule.NoHeader},
	} {
		p := with(usual, func(p *api.Params) { p.Limit = c.limit })
		if got := rule.Itself(p, c.h); got != c.want {
			t.Errorf("%x, %+v: %d, not %d", c.limit, c.h, got, c.want)
		}
	}
	for _, h := range badHeaders(met) {
		if got := rule.Itself(usual, h); got != rule.NoHeader {
			t.Errorf("%+v: %d", h, got)
		}
	}
}

func TestP11_1ItselfLooksAtNothingElse(t *testing.T) {
	h := mined(t, api.Header{Version: math.MinInt32, Prev: name(3), Time: 1<<32 - 1, Bits: 0x207fffff}, true)
	p := with(usual, func(p *api.Params) {
		p.Interval, p.Spacing, p.Future, p.Genesis.Time = -1, -1, -1, -1
		p.Gates = []api.Gate{{Height: 0, Version: 5}}
		p.Checks = []api.Check{{Height: 0}, {Height: 1}}
	})
	if got := rule.Itself(p, h); got != rule.Fine {
		t.Errorf("%d", got)
	}
}

// stand: rules, a spot, a header, a clock.
type stand struct {
	p   api.Params
	at  rule.Spot
	h   api.Header
	now int
}

// check: what is wrong there.
func (s stand) check() rule.Reason { return rule.Check(s.p, s.at, s.h, s.now) }

// fineStand: one where nothing is wrong, and the same with a header whose name doesn't meet its target; all rules are told.
func fineStand(t testing.TB, meets bool) stand {
	t.Helper()
	at := rule.Spot{Point: pace.Point{Height: 5, Bits: 0x2007ffff, Time: 140, First: 100, Hard: 0x2007fffe}, Prev: name(9), Times: []int{140, 130, 120, 110, 100}}
	h := mined(t, api.Header{Version: 3, Prev: name(9), Root: name(4), Time: 150, Bits: 0x2007ffff}, meets)
	p := usual
	p.Gates = []api.Gate{{Height: 0, Version: 2}, {Height: 5, Version: 3}, {Height: 6, Version: 4}}
	p.Checks = []api.Check{{Height: 4, Id: name(1)}, {Height: 5, Id: wantId(h)}, {Height: 6, Id: name(2)}}
	return stand{p, at, h, 150}
}

// spoils: how a stand is spoilt by each reason alone but NoWork, without the header's name being another one.
var spoils = []struct {
	why  rule.Reason
	does func(s *stand)
}{
	{rule.Elsewhere, func(s *stand) { s.at.Prev[31]++ }},
	{rule.WrongBits, func(s *stand) { s.at.Bits++ }},
	{rule.TooOld, func(s *stand) { s.at.Times = []int{150} }},
	{rule.TooNew, func(s *stand) { s.now = 49 }},
	{rule.OldVersion, func(s *stand) { s.p.Gates = []api.Gate{{Height: 5, Version: 4}} }},
	{rule.OffTrack, func(s *stand) { s.p.Checks = []api.Check{{Height: 5, Id: name(1)}} }},
}

func TestP11_1CheckFine(t *testing.T) {
	if got := fineStand(t, true).check(); got != rule.Fine {
		t.Errorf("%d", got)
	}
	if got := fineStand(t, false).check(); got != rule.NoWork {
		t.Errorf("no work: %d", got)
	}
}

func TestP11_1CheckNamesTheFirstOfAll(t *testing.T) {
	for _, meets := range []bool{true, false} {
		for set := range 1 << len(spoils) {
			s := fineStand(t, meets)
			first := rule.Fine
			if !meets {
				first = rule.NoWork
			}
			for i, spoil := range spoils {
				if set&(1<<i) == 0 {
					continue
				}
				spoil.does(&s)
				if first == rule.Fine || spoil.why < first {
					first = spoil.why
				}
			}
			if got := s.check(); got != first {
				t.Errorf("%v, %b: %d, not %d", meets, set, got, first)
			}
			for _, h := range badHeaders(s.h) {
				bad := s
				bad.h = h
				if got := bad.check(); got != rule.NoHeader {
					t.Errorf("%v, %b, %+v: %d", meets, set, h, got)
				}
			}
		}
	}
}

func TestP11_1CheckElsewhere(t *testing.T) {
	for i := range len(api.Hash{}) {
		s := fineStand(t, true)
		s.at.Prev[i] ^= 0x80
		if got := s.check(); got != rule.Elsewhere {
			t.Errorf("byte %d: %d", i, got)
		}
	}
	s := fineStand(t, true)
	s.at.Prev = api.Hash{}
	if got := s.check(); got != rule.Elsewhere {
		t.Errorf("noughts: %d", got)
	}
	for _, prev := range []api.Hash{wantId(s.h), s.h.Root, {}} {
		s := fineStand(t, true)
		s.h.Prev = prev
		if got := s.check(); got != rule.Elsewhere {
			t.Errorf("%x: %d", prev, got)
		}
	}
}

func TestP11_1CheckNoHeaderHangsOnNoughts(t *testing.T) {
	if got := rule.Check(api.Params{}, rule.Spot{}, api.Header{Bits: -1}, 0); got != rule.NoHeader {
		t.Errorf("%d", got)
	}
	if got := rule.Check(api.Params{}, rule.Spot{}, api.Header{}, 0); got != rule.NoWork { // of a limit of 0 its bits are right
		t.Errorf("%d", got)
	}
	if got := rule.Check(usual, rule.Spot{}, api.Header{}, 0); got != rule.WrongBits {
		t.Errorf("%d", got)
	}
}

func TestP11_1CheckBits(t *testing.T) {
	easy := with(usual, func(p *api.Params) { p.Easy = true })
	for _, c := range []struct {
		what       string
		p          api.Params
		height     int
		time, bits int
		want       rule.Reason
	}{
		{"that of the one ahead", usual, 5, 150, 0x2007ffff, rule.Fine},
		{"harder", usual, 5, 150, 0x2007fffe, rule.WrongBits},
		{"easier", usual, 5, 150, 0x20080000, rule.WrongBits},
		{"the limit", usual, 5, 150, 0x207fffff, rule.WrongBits},
		{"the limit, late", usual, 5, 200, 0x207fffff, rule.WrongBits},
		{"late", usual, 5, 200, 0x2007ffff, rule.Fine},
		{"Hard, easy ones aren't let", usual, 5, 150, 0x2007fff0, rule.WrongBits},
		{"Hard, easy ones are let", easy, 5, 150, 0x2007fff0, rule.Fine},
		{"that of the one ahead, easy ones are let", easy, 5, 150, 0x2007ffff, rule.WrongBits},
		{"the limit, in time", easy, 5, 160, 0x207fffff, rule.WrongBits},
		{"Hard, in time", easy, 5, 160, 0x2007fff0, rule.Fine},
		{"the limit, late, easy ones are let", easy, 5, 161, 0x207fffff, rule.Fine},
		{"Hard, late", easy, 5, 161, 0x2007fff0, rule.WrongBits},
		{"set anew", usual, 8, 150, 0x200ffffe, rule.Fine},
		{"set anew, late", easy, 8, 200, 0x200ffffe, rule.Fine},
		{"not set anew", usual, 8, 150, 0x2007ffff, rule.WrongBits},
		{"the limit, where it is set anew", easy, 8, 200, 0x207fffff, rule.WrongBits},
		{"the genesis' height", usual, 0, 150, 0x207fffff, rule.Fine},
		{"the genesis' height, harder", usual, 0, 150, 0x2007ffff, rule.WrongBits},
		{"below", easy, -3, 150, 0x207fffff, rule.Fine},
	} {
		at := rule.Spot{Point: pace.Point{Height: c.height, Bits: 0x2007ffff, Time: 140, First: 60, Hard: 0x2007fff0}, Prev: name(9)}
		h := mined(t, api.Header{Prev: name(9), Time: c.time, Bits: c.bits}, true)
		if got := rule.Check(c.p, at, h, 150); got != c.want {
			t.Errorf("%s: %d, not %d", c.what, got, c.want)
		}
	}
}

func TestP11_1CheckTargetsByTheLimit(t *testing.T) {
	s := fineStand(t, true)
	for limit, want := range map[int]rule.Reason{0x207fffff: rule.Fine, 0x2007ffff: rule.Fine, 0x2007fffe: rule.NoWork, 0x1d00ffff: rule.NoWork, 0: rule.NoWork, -1: rule.NoWork, 0x20ffffff: rule.NoWork, 0x23000001: rule.NoWork} {
		s.p.Limit = limit
		if got := s.check(); got != want {
			t.Errorf("%x: %d, not %d", limit, got, want)
		}
	}
	for _, bits := range []int{0, 0x20800001, 0x04923456, 0x23000001, 0x217fffff, 0x20ffffff, 0x01003456} { // the one ahead has them too
		s := fineStand(t, true)
		s.at.Bits, s.h.Bits = bits, bits
		if got := s.check(); got != rule.NoWork {
			t.Errorf("%x: %d", bits, got)
		}
	}
}

func TestP11_1CheckTooOld(t *testing.T) {
	s := fineStand(t, true)
	s.now = 1 << 32
	for _, c := range []struct {
		times []int
		want  rule.Reason
	}{
		{nil, rule.Fine}, {[]int{}, rule.Fine},
		{[]int{149}, rule.Fine}, {[]int{150}, rule.TooOld}, {[]int{151}, rule.TooOld},
		{[]int{149, 150}, rule.TooOld}, {[]int{150, 149}, rule.TooOld}, {[]int{0, 149}, rule.Fine},
		{[]int{150, 149, 148}, rule.Fine}, {[]int{148, 150, 150}, rule.TooOld}, {[]int{1000, 149, 1}, rule.Fine}, {[]int{1, 1000, 150}, rule.TooOld},
		{[]int{1000, 1001, 1002, 1003, 1004, 149, 1, 2, 3, 4, 5}, rule.Fine},
		{[]int{1000, 1001, 1002, 1003, 1004, 150, 1, 2, 3, 4, 5}, rule.TooOld},
		{[]int{1000, 1001, 1002, 1003, 1, 1004, 149, 2, 3, 4, 5, 5000, 5000, 5000}, rule.Fine}, // the twelfth one doesn't count
		{[]int{1000, 1001, 1002, 1003, 1, 1004, 150, 2, 3, 4, 5, 0, 0, 0}, rule.TooOld},
		{[]int{math.MinInt, math.MaxInt, 149}, rule.Fine}, {[]int{math.MinInt, math.MaxInt, 150}, rule.TooOld},
		{[]int{math.MaxInt}, rule.TooOld}, {[]int{math.MinInt}, rule.Fine}, {[]int{-1}, rule.Fine},
	} {
		s.at.Times = c.times
		if got := s.check(); got != c.want {
			t.Errorf("%d: %d, not %d", c.times, got, c.want)
		}
	}
}

func TestP11_1CheckTooNew(t *testing.T) {
	s := fineStand(t, true)
	for _, c := range []struct {
		now, future int
		want        rule.Reason
	}{
		{150, 100, rule.Fine}, {151, 100, rule.Fine}, {50, 100, rule.Fine}, {49, 100, rule.TooNew}, {0, 100, rule.TooNew},
		{150, 0, rule.Fine}, {149, 0, rule.TooNew}, {149, 1, rule.Fine}, {151, 0, rule.Fine},
		{1 << 32, 0, rule.Fine}, {math.MaxInt, 0, rule.Fine},
		{-1, 150, rule.TooNew}, {-1, 151, rule.Fine}, {0, 1<<32 - 1, rule.Fine}, {-1 << 32, 1<<32 - 1, rule.TooNew},
		{150, -1, rule.TooNew}, {1000, -1, rule.TooNew}, {math.MaxInt, math.MinInt, rule.TooNew},
		{0, math.MaxInt, rule.Fine}, {math.MinInt + 151, math.MaxInt, rule.Fine},
		{math.MinInt + 150, 100, rule.Fine}, // the difference goes round
		{math.MinInt + 151, 100, rule.TooNew},
	} {
		s.now, s.p.Future = c.now, c.future
		if got := s.check(); got != c.want {
			t.Errorf("at %d, %d ahead: %d, not %d", c.now, c.future, got, c.want)
		}
	}
}

func TestP11_1CheckVersions(t *testing.T) {
	s := fineStand(t, true) // its version is 3, its height 5
	for _, c := range []struct {
		gates []api.Gate
		want  rule.Reason
	}{
		{nil, rule.Fine},
		{[]api.Gate{{Height: 5, Version: 3}}, rule.Fine}, {[]api.Gate{{Height: 5, Version: 4}}, rule.OldVersion},
		{[]api.Gate{{Height: 6, Version: 4}}, rule.Fine}, {[]api.Gate{{Height: 4, Version: 4}}, rule.OldVersion}, {[]api.Gate{{Height: 0, Version: 4}}, rule.OldVersion},
		{[]api.Gate{{Height: 1, Version: 4}, {Height: 3, Version: 2}}, rule.OldVersion}, // of any of them
		{[]api.Gate{{Height: 1, Version: 2}, {Height: 3, Version: 4}}, rule.OldVersion},
		{[]api.Gate{{Height: 7, Version: 9}, {Height: 3, Version: 4}}, rule.OldVersion},
		{[]api.Gate{{Height: 7, Version: 9}, {Height: 3, Version: 3}}, rule.Fine},
		{[]api.Gate{{Height: 0, Version: math.MinInt}, {Height: 1, Version: -1}}, rule.Fine},
		{[]api.Gate{{Height: 5, Version: math.MaxInt}}, rule.OldVersion}, {[]api.Gate{{Height: math.MinInt, Version: 1 << 31}}, rule.OldVersion},
	} {
		s.p.Gates = c.gates
		if got := s.check(); got != c.want {
			t.Errorf("%+v: %d, not %d", c.gates, got, c.want)
		}
	}
	at := rule.Spot{Point: pace.Point{Height: 1, Bits: 0x207fffff}}
	h := mined(t, api.Header{Version: math.MinInt32, Bits: 0x207fffff}, true)
	for version, want := range map[int]rule.Reason{math.MinInt: rule.Fine, math.MinInt32: rule.Fine, math.MinInt32 + 1: rule.OldVersion, -1: rule.OldVersion, 0: rule.OldVersion} {
		p := with(usual, func(p *api.Params) { p.Gates = []api.Gate{{Height: 1, Version: version}} })
		if got := rule.Check(p, at, h, 0); got != want {
			t.Errorf("the lowest version, where %d is asked for: %d, not %d", version, got, want)
		}
	}
}

func TestP11_1CheckTracks(t *testing.T) {
	s := fineStand(t, true)
	id := wantId(s.h)
	near := id
	near[31] ^= 1
	for _, c := range []struct {
		checks []api.Check
		want   rule.Reason
	}{
		{nil, rule.Fine},
		{[]api.Check{{Height: 5, Id: id}}, rule.Fine}, {[]api.Check{{Height: 5, Id: near}}, rule.OffTrack}, {[]api.Check{{Height: 5, Id: s.h.Prev}}, rule.OffTrack},
		{[]api.Check{{Height: 4, Id: near}, {Height: 6, Id: near}}, rule.Fine},
		{[]api.Check{{Height: 4, Id: id}, {Height: 6, Id: id}}, rule.Fine},
		{[]api.Check{{Height: 1, Id: id}, {Height: 5}}, rule.OffTrack},
		{[]api.Check{{Height: 5, Id: id}, {Height: 5, Id: near}}, rule.OffTrack},
	} {
		s.p.Checks = c.checks
		if got := s.check(); got != c.want {
			t.Errorf("%+v: %d, not %d", c.checks, got, c.want)
		}
	}
}

// sameSpot: whether two spots are the same.
func sameSpot(a, b rule.Spot) bool {
	return a.Point == b.Point && a.Prev == b.Prev && slices.Equal(a.Times, b.Times)
}

func TestP11_1BehindByHand(t *testing.T) {
	easy := with(usual, func(p *api.Params) { p.Easy = true })
	for _, c := range []struct {
		what        string
		p           api.Params
		height      int
		bits        int
		first, hard int
	}{
		{"within a period", usual, 5, 0x2007ffff, 60, 0x2007ffff},
		{"a period's last one", usual, 7, 0x2007ffff, 60, 0x2007ffff},
		{"a period's first one", usual, 8, 0x2007ffff, 150, 0x2007ffff},
		{"the limit", usual, 5, 0x207fffff, 60, 0x207fffff},
		{"the limit, a period's first one", usual, 8, 0x207fffff, 150, 0x207fffff},
		{"easy ones are let", easy, 5, 0x2007ffff, 60, 0x2007ffff},
		{"easy ones are let, the limit", easy, 5, 0x207fffff, 60, 0x2007fff0},
		{"easy ones are let, almost the limit", easy, 5, 0x207ffffe, 60, 0x207ffffe},
		{"easy ones are let, the limit, a period's last one", easy, 7, 0x207fffff, 60, 0x2007fff0},
		{"easy ones are let, the limit, a period's first one", easy, 8, 0x207fffff, 150, 0x207fffff},
		{"easy ones are let, a period's first one", easy, 8, 0x2007ffff, 150, 0x2007ffff},
		{"the genesis' height", easy, 0, 0x207fffff, 150, 0x207fffff},
		{"below it", easy, -3, 0x207fffff, 60, 0x2007fff0},
		{"below it, a period's first one", easy, -4, 0x207fffff, 150, 0x207fffff},
		{"no periods", with(easy, func(p *api.Params) { p.Interval = 0 }), 0, 0x207fffff, 60, 0x2007fff0},
		{"periods below 0", with(easy, func(p *api.Params) { p.Interval = -4 }), 8, 0x207fffff, 60, 0x2007fff0},
	} {
		at := rule.Spot{Point: pace.Point{Height: c.height, Bits: 0x2006ffff, Time: 140, First: 60, Hard: 0x2007fff0}, Prev: name(9), Times: []int{140, 130}}
		h := api.Header{Version: 3, Prev: name(9), Time: 150, Bits: c.bits, Nonce: 7}
		want := rule.Spot{Point: pace.Point{Height: c.height + 1, Bits: c.bits, Time: 150, First: c.first, Hard: c.hard}, Prev: wantId(h), Times: []int{150, 140, 130}}
		if got := rule.Behind(c.p, at, h); !sameSpot(got, want) {
			t.Errorf("%s: %+v, not %+v", c.what, got, want)
		}
	}
}

func TestP11_1BehindIsOfAnyHeader(t *testing.T) {
	at := rule.Spot{Point: pace.Point{Height: math.MaxInt, First: 1, Hard: 2}, Prev: name(1)}
	h := api.Header{Prev: name(2), Time: 5, Bits: 6} // neither there nor with work
	want := rule.Spot{Point: pace.Point{Height: math.MinInt, Bits: 6, Time: 5, First: 1, Hard: 6}, Prev: wantId(h), Times: []int{5}}
	if got := rule.Behind(usual, at, h); !sameSpot(got, want) {
		t.Errorf("%+v, not %+v", got, want)
	}
	for _, h := range badHeaders(h) {
		want := rule.Spot{Point: pace.Point{Height: math.MinInt, Bits: h.Bits, Time: h.Time, First: 1, Hard: h.Bits}, Times: []int{h.Time}}
		if got := rule.Behind(usual, at, h); !sameSpot(got, want) {
			t.Errorf("%+v: %+v, not %+v", h, got, want)
		}
	}
	if got := rule.Behind(api.Params{}, rule.Spot{}, api.Header{}); !sameSpot(got, rule.Spot{Point: pace.Point{Height: 1}, Prev: wantId(api.Header{}), Times: []int{0}}) {
		t.Errorf("%+v", got)
	}
}

func TestP11_1BehindHasElevenTimesAtMost(t *testing.T) {
	var times []int
	for size := range 30 {
		want := append([]int{1000 + size}, times[:min(10, len(times))]...)
		got := rule.Behind(usual, rule.Spot{Times: times}, api.Header{Time: 1000 + size})
		if !slices.Equal(got.Times, want) {
			t.Errorf("behind %d: %d, not %d", times, got.Times, want)
		}
		times = append([]int{1000 + size}, times...)
	}
}

func TestP11_1Begin(t *testing.T) {
	genesis := api.Header{Version: 1, Prev: name(3), Time: 50, Bits: 0x2007ffff, Nonce: 9}
	for _, c := range []struct {
		what        string
		p           api.Params
		bits        int
		first, hard int
	}{
		{"usual", usual, 0x2007ffff, 50, 0x2007ffff},
		{"easy", with(usual, func(p *api.Params) { p.Easy = true }), 0x2007ffff, 50, 0x2007ffff},
		{"the limit", usual, 0x207fffff, 50, 0x207fffff},
		{"easy, the limit", with(usual, func(p *api.Params) { p.Easy = true }), 0x207fffff, 50, 0x207fffff},
		{"easy, the limit, no periods", with(usual, func(p *api.Params) { p.Easy, p.Interval = true, 0 }), 0x207fffff, 0, 0x207fffff},
		{"no periods", with(usual, func(p *api.Params) { p.Interval = -1 }), 0x2007ffff, 0, 0x2007ffff},
		{"not as the rules have it", usual, 5, 50, 5},
	} {
		c.p.Genesis = genesis
		c.p.Genesis.Bits = c.bits
		want := rule.Spot{Point: pace.Point{Height: 1, Bits: c.bits, Time: 50, First: c.first, Hard: c.hard}, Prev: wantId(c.p.Genesis), Times: []int{50}}
		if got := rule.Begin(c.p); !sameSpot(got, want) {
			t.Errorf("%s: %+v, not %+v", c.what, got, want)
		}
	}
	for _, bad := range badHeaders(genesis) {
		p := with(usual, func(p *api.Params) { p.Genesis = bad })
		want := rule.Spot{Point: pace.Point{Height: 1, Bits: bad.Bits, Time: bad.Time, First: bad.Time, Hard: bad.Bits}, Times: []int{bad.Time}}
		if got := rule.Begin(p); !sameSpot(got, want) {
			t.Errorf("%+v: %+v, not %+v", bad, got, want)
		}
	}
	if got := rule.Begin(api.Params{}); got.Height != 1 || got.Prev != wantId(api.Header{}) || len(got.Times) != 1 {
		t.Errorf("of no rules: %+v", got)
	}
}

// wantSpot: the spot behind a chain, by all of its headers.
func wantSpot(p api.Params, chain []api.Header) rule.Spot {
	last := len(chain) - 1
	out := rule.Spot{Point: pace.Point{Height: len(chain), Bits: chain[last].Bits, Time: chain[last].Time}, Prev: wantId(chain[last])}
	out.First = chain[last-last%p.Interval].Time
	hard := last
	for p.Easy && hard%p.Interval != 0 && chain[hard].Bits == p.Limit {
		hard--
	}
	out.Hard = chain[hard].Bits
	for i := last; i >= 0 && i > last-11; i-- {
		out.Times = append(out.Times, chain[i].Time)
	}
	return out
}

func TestP11_1ChainsOfAllRules(t *testing.T) {
	r := rand.New(rand.NewSource(11))
	anew, late := 0, 0
	for _, easy := range []bool{false, true} {
		for _, interval := range []int{2, 3, 4, 7, 64} {
			p := api.Params{Limit: 0x207fffff, Interval: interval, Spacing: 10, Future: 1000, Easy: easy, Genesis: api.Header{Version: 1, Time: 5000, Bits: 0x201fffff}}
			chain := []api.Header{p.Genesis}
			at := rule.Begin(p)
			for range 70 {
				if want := wantSpot(p, chain); !sameSpot(at, want) {
					t.Fatalf("%v, %d, behind %d: %+v, not %+v", easy, interval, len(chain), at, want)
				}
				h := api.Header{Version: len(chain), Prev: at.Prev, Time: at.Time + r.Intn(25)}
				if at.Hard < 0x2003ffff { // slower, so that a number is found soon
					h.Time += 15
				}
				times := slices.Clone(at.Times)
				slices.Sort(times)
				h.Time = max(h.Time, times[len(times)/2]+1)
				h.Bits = pace.Next(p, at.Point, h.Time)
				if h.Bits != at.Bits && pace.Starts(p, at.Height) {
					anew++
				} else if h.Bits != at.Bits {
					late++
				}
				h = mined(t, h, true)
				if got := rule.Check(p, at, h, h.Time); got != rule.Fine {
					t.Fatalf("%v, %d, the %d-th: %d", easy, interval, len(chain), got)
				}
				chain = append(chain, h)
				at = rule.Behind(p, at, h)
			}
		}
	}
	if anew < 50 || late < 50 {
		t.Errorf("too few changes for a test: %d set anew, %d late", anew, late)
	}
}

func TestP11_1AnyNumbers(t *testing.T) {
	for _, one := range edges {
		for _, other := range edges {
			p := api.Params{
				Limit: other, Interval: one, Spacing: other, Future: one, Easy: one < other,
				Gates: gatesAt(one, other), Checks: checksAt(other, one), Genesis: api.Header{Version: one, Time: other, Bits: one, Nonce: other},
			}
			at := rule.Spot{Point: pace.Point{Height: one, Bits: other, Time: one, First: other, Hard: one}, Times: []int{one, other}}
			h := api.Header{Version: other, Time: one, Bits: other, Nonce: one}
			if rule.Good(p) || rule.Itself(p, h) == rule.Fine || rule.Check(p, at, h, other) == rule.Fine {
				t.Errorf("%d, %d", one, other)
			}
			if got := rule.Behind(p, at, h); got.Height != one+1 || got.Bits != other || got.Time != one || !slices.Equal(got.Times, []int{one, one, other}) {
				t.Errorf("%d, %d: %+v", one, other, got)
			}
			if got := rule.Begin(p); got.Height != 1 || got.Bits != one || got.Time != other || got.Hard != one && got.Hard != other {
				t.Errorf("%d, %d: %+v", one, other, got)
			}
		}
	}
}

func TestP11_1WhatIsHandedInStays(t *testing.T) {
	s := fineStand(t, true)
	times := append(make([]int, 0, 40), 140, 150, 130, 120, 110, 100, 90, 80, 70, 60, 50, 40, 30)
	room := times[:40]
	s.at.Times = times
	wasTimes, wasGates, wasChecks := slices.Clone(room), slices.Clone(s.p.Gates), slices.Clone(s.p.Checks)
	for size := range times {
		s.at.Times = times[:size]
		s.check()
		out := rule.Behind(s.p, s.at, s.h)
		for i := range out.Times[:cap(out.Times)] {
			out.Times[:cap(out.Times)][i] = -7
		}
		if !slices.Equal(room, wasTimes) {
			t.Fatalf("%d: %d, not %d", size, room, wasTimes)
		}
	}
	rule.Good(s.p)
	rule.Itself(s.p, s.h)
	rule.Version(5, s.p.Gates...)
	rule.Tracked(5, name(1), s.p.Checks...)
	rule.Begin(s.p)
	if !slices.Equal(s.p.Gates, wasGates) || !slices.Equal(s.p.Checks, wasChecks) {
		t.Errorf("%+v", s.p)
	}
}

func TestP11_1WhatIsToldIsNew(t *testing.T) {
	at := rule.Begin(usual)
	h := mined(t, api.Header{Prev: at.Prev, Time: 60, Bits: 0x207fffff}, true)
	one, two := rule.Behind(usual, at, h), rule.Behind(usual, at, h)
	at.Times[0] = -1
	one.Times[0], one.Times[1] = -2, -3
	if !slices.Equal(two.Times, []int{60, 50}) || !slices.Equal(rule.Begin(usual).Times, []int{50}) {
		t.Errorf("%d, %d", two.Times, rule.Begin(usual).Times)
	}
	one = rule.Behind(usual, two, api.Header{Time: 70})
	two.Times[0] = -4
	if !slices.Equal(one.Times, []int{70, 60, 50}) {
		t.Errorf("%d", one.Times)
	}
}

func TestP11_1ASpotHasAPointsFields(t *testing.T) {
	var at rule.Spot
	at.Height, at.Bits, at.Time, at.First, at.Hard = 1, 2, 3, 4, 5
	if at.Point != (pace.Point{Height: 1, Bits: 2, Time: 3, First: 4, Hard: 5}) {
		t.Errorf("%+v", at)
	}
}

func TestP11_1TheReasons(t *testing.T) {
	all := []rule.Reason{rule.Fine, rule.NoHeader, rule.Elsewhere, rule.WrongBits, rule.NoWork, rule.TooOld, rule.TooNew, rule.OldVersion, rule.OffTrack}
	for i, why := range all {
		if int(why) != i {
			t.Errorf("%d, not %d", why, i)
		}
	}
}

func TestP11_1TheFirstBlocksOfAll(t *testing.T) {
	digits := func(s string) api.Hash {
		n, ok := new(big.Int).SetString(s, 16)
		if !ok {
			t.Fatalf("%s is no name", s)
		}
		var out api.Hash
		n.FillBytes(out[:])
		slices.Reverse(out[:])
		return out
	}
	first := api.Header{
		Version: 1,
		Root:    digits("4a5e1e4baab89f3a32518a88c31bc87f618f76673e2cc77ab2127b7afdeda33b"),
		Time:    1231006505, Bits: 0x1d00ffff, Nonce: 2083236893,
	}
	second := api.Header{
		Version: 1,
		Prev:    digits("000000000019d6689c085ae165831e934ff763ae46a2a6c172b3f1b60a8ce26f"),
		Root:    digits("0e3e2357e806b6cdb1f70b54c3a3a17b6714ee1f0e68bebb44a74b1efd512098"),
		Time:    1231469665, Bits: 0x1d00ffff, Nonce: 2573394689,
	}
	id := digits("00000000839a8e6886ab5951d76f411475428afc90947ee320161bbf18eb6048")
	p := api.Params{Limit: 0x1d00ffff, Interval: 64, Spacing: 600, Future: 7200, Genesis: first, Checks: []api.Check{{Height: 1, Id: id}}}
	if !rule.Good(p) || rule.Itself(p, first) != rule.Fine || rule.Itself(p, second) != rule.Fine {
		t.Error("the rules, or the blocks themselves")
	}
	if got := rule.Check(p, rule.Begin(p), second, second.Time); got != rule.Fine {
		t.Errorf("%d", got)
	}
	if got := rule.Check(p, rule.Begin(p), second, second.Time-7201); got != rule.TooNew {
		t.Errorf("too early: %d", got)
	}
	want := rule.Spot{Point: pace.Point{Height: 2, Bits: 0x1d00ffff, Time: second.Time, First: first.Time, Hard: 0x1d00ffff}, Prev: id, Times: []int{second.Time, first.Time}}
	if got := rule.Behind(p, rule.Begin(p), second); !sameSpot(got, want) {
		t.Errorf("%+v, not %+v", got, want)
	}
}

func TestP11_2TooNewIsFineLater(t *testing.T) {
	for _, future := range []int{0, 1, 100, 7200, 1<<32 - 1} {
		s := fineStand(t, true)
		s.p.Future = future
		for _, early := range []int{1, 2, 1000, 1 << 33} {
			s.now = s.h.Time - future - early
			if got := s.check(); got != rule.TooNew {
				t.Errorf("%d ahead, %d too early: %d", future, early, got)
			}
		}
		for _, later := range []int{0, 1, 2, 1000, 1 << 33, 1 << 60} {
			s.now = s.h.Time - future + later
			if got := s.check(); got != rule.Fine {
				t.Errorf("%d ahead, %d later: %d", future, later, got)
			}
		}
	}
}

func TestP11_2ItTurnsOnceAlone(t *testing.T) {
	for _, time := range []int{0, 1, 150, 1<<31 - 1, 1 << 31, 1<<32 - 1} {
		for _, future := range []int{0, 1, 50, 1<<32 - 1} {
			p := with(usual, func(p *api.Params) { p.Future = future })
			at := rule.Spot{Point: pace.Point{Height: 1, Bits: 0x207fffff, Hard: 0x207fffff}}
			h := mined(t, api.Header{Time: time, Bits: 0x207fffff}, true)
			for off := -300; off < 300; off++ {
				want := rule.Fine
				if off < 0 {
					want = rule.TooNew
				}
				if got := rule.Check(p, at, h, time-future+off); got != want {
					t.Fatalf("%d, %d ahead, off by %d: %d, not %d", time, future, off, got, want)
				}
			}
		}
	}
}

func TestP11_2WhatElseIsWrongStaysSo(t *testing.T) {
	for _, spoil := range spoils {
		if spoil.why == rule.TooNew {
			continue
		}
		s := fineStand(t, true)
		spoil.does(&s)
		for _, now := range []int{50, 150, 1000, 1 << 32, math.MaxInt} {
			s.now = now
			if got := s.check(); got != spoil.why {
				t.Errorf("at %d: %d, not %d", now, got, spoil.why)
			}
		}
		s.now = 49
		if got := s.check(); got != min(spoil.why, rule.TooNew) {
			t.Errorf("too early: %d, not %d", got, min(spoil.why, rule.TooNew))
		}
	}
}

func TestP11_2SoughtHeadersToo(t *testing.T) {
	at := rule.Begin(usual)
	for time := 51; time < 400; time += 7 {
		h, found := header.Seek(api.Header{Version: 1, Prev: at.Prev, Time: time, Bits: 0x207fffff}, 1000)
		if !found {
			t.Fatalf("none at %d", time)
		}
		fine := false
		for now := 0; now < 500; now++ {
			got := rule.Check(usual, at, h, now)
			if got != rule.Fine && got != rule.TooNew || fine && got != rule.Fine {
				t.Fatalf("%d, at %d: %d", time, now, got)
			}
			fine = got == rule.Fine
		}
		if !fine {
			t.Errorf("%d: never", time)
		}
	}
}
