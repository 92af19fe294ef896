package chain_test

import (
	"cmp"
	"math"
	"math/rand"
	"reflect"
	"slices"
	"testing"

	"trailhead/api"
	"trailhead/arena"
	"trailhead/chain"
	"trailhead/header"
	"trailhead/mark"
	"trailhead/pace"
	"trailhead/rule"
	"trailhead/skip"
)

// easiest is the limit of the rules here: every other name meets it.
const easiest = 0x207fffff

// late is a clock by which no header here comes too early.
const late = 1 << 20

// none is no place.
const none = -1

// usual are rules that can be; who takes eleven seconds a block, or more, keeps the easiest bits.
var usual = api.Params{
	Limit: easiest, Interval: 64, Spacing: 10, Future: 100,
	Genesis: api.Header{Version: 1, Time: 50, Bits: easiest},
}

// quick are rules by which the target is set anew every other block: a chain of few that came fast is heavier than one of many that came slowly.
var quick = api.Params{
	Limit: easiest, Interval: 2, Spacing: 10, Future: 100,
	Genesis: api.Header{Version: 1, Time: 50, Bits: easiest},
}

// noPlaces are numbers that are no places of any tree.
var noPlaces = []int{math.MinInt, math.MinInt + 1, -1 << 32, -2, -1, 512, 513, 1 << 32, math.MaxInt - 1, math.MaxInt}

// made: a chain.
func made(t testing.TB, p api.Params, room int) *chain.Chain {
	t.Helper()
	c, e := chain.New(p, room)
	if e != api.OK {
		t.Fatalf("%+v, %d: %d", p, room, e)
	}
	return c
}

// mined: a header with a number by which its name meets its target.
func mined(t testing.TB, h api.Header) api.Header {
	t.Helper()
	h, found := header.Seek(h, 1<<20)
	if !found {
		t.Fatalf("%+v: no number", h)
	}
	return h
}

// next: a header that may be stored behind a place of a tree, so many seconds later; unlike others by its root.
func next(t testing.TB, x *skip.Tree, ahead, seconds, root int) api.Header {
	t.Helper()
	at, _ := x.At(ahead)
	spot, _ := x.Spot(ahead)
	h := api.Header{Version: 1, Prev: at.Id, Time: at.Header.Time + seconds}
	h.Bits = pace.Next(x.Rules(), spot.Point, h.Time)
	h.Root[0], h.Root[1] = byte(root), byte(root>>8)
	return mined(t, h)
}

// grow: a header more in a chain's tree, behind a place, so many seconds later.
func grow(t testing.TB, c *chain.Chain, ahead, seconds int) {
	t.Helper()
	n := c.Tree().Len()
	h := next(t, c.Tree(), ahead, seconds, n)
	if at, why, e := c.Add(h, late); at != n || why != rule.Fine || e != api.OK {
		t.Fatalf("%+v: at %d, %d, %d, not at %d", h, at, why, e, n)
	}
}

// byHand: a line of four behind the genesis, at the places 1 to 4; 5 and 6 branch off behind 2, 7 behind 5, 8 behind the genesis. Heights: 0 1 2 3 4 3 3 4 1; the heaviest first: 4 7 3 5 6 2 1 8 0.
func byHand(t testing.TB) *chain.Chain {
	t.Helper()
	c := made(t, usual, 50)
	for _, ahead := range []int{0, 1, 2, 3, 2, 2, 5, 0} {
		grow(t, c, ahead, 11)
	}
	return c
}

// does: a deed must answer so.
func does(t testing.TB, got, want api.Errno) {
	t.Helper()
	if got != want {
		t.Fatalf("%d, not %d", got, want)
	}
}

// right: all these are right.
func right(t testing.TB, c *chain.Chain, places ...int) {
	t.Helper()
	for _, at := range places {
		does(t, c.Verdict(at, true), api.OK)
	}
}

// active: the active row must be this one.
func active(t testing.TB, c *chain.Chain, want ...int) {
	t.Helper()
	if got := c.Active(); !slices.Equal(got, want) || c.Tip() != want[len(want)-1] {
		t.Fatalf("%d, the tip %d, not %d", got, c.Tip(), want)
	}
}

// heads: the candidates must be these, in this order.
func heads(t testing.TB, c *chain.Chain, want ...int) {
	t.Helper()
	if got := c.Heads(); !slices.Equal(got, want) {
		t.Fatalf("%d, not %d", got, want)
	}
}

// aims: the target and the lead must be these.
func aims(t testing.TB, c *chain.Chain, target, lead int) {
	t.Helper()
	if c.Target() != target || c.Lead() != lead {
		t.Fatalf("%d, %d, not %d, %d", c.Target(), c.Lead(), target, lead)
	}
}

// settles: so many steps must be made, and none more.
func settles(t testing.TB, c *chain.Chain, want int) {
	t.Helper()
	if got := c.Settle(); got != want || c.Settle() != 0 || c.Step() {
		t.Fatalf("%d steps, not %d", got, want)
	}
}

// steps: a step must be made, to this row.
func steps(t testing.TB, c *chain.Chain, want ...int) {
	t.Helper()
	if !c.Step() {
		t.Fatalf("no step to %d", want)
	}
	active(t, c, want...)
}

// view is all that a chain tells.
type view struct {
	tip, target, lead, size int
	active, heads           []int
	said                    []int // of each block: what is said of it, and 4 more, if it is ruled out
}

// look: all that a chain tells.
func look(c *chain.Chain) view {
	v := view{tip: c.Tip(), target: c.Target(), lead: c.Lead(), size: c.Tree().Len(), active: c.Active(), heads: c.Heads()}
	for at := range v.size {
		said, out := c.Marks().Said(at)
		if out {
			said += 4
		}
		v.said = append(v.said, said)
	}
	return v
}

// model is a chain, the plain way: the row stands there itself, and all of each block is reckoned anew.
type model struct {
	tree  *skip.Tree // for what is stored alone
	right map[int]struct{}
	wrong map[int]struct{}
	out   map[int]struct{}
	row   []int
}

func newModel(x *skip.Tree) *model {
	return &model{tree: x, right: map[int]struct{}{0: {}}, wrong: map[int]struct{}{}, out: map[int]struct{}{}, row: []int{0}}
}

// in: whether a place is one of some.
func in(set map[int]struct{}, at int) bool {
	_, is := set[at]
	return is
}

// way: the genesis, then those on the way to a place, then itself.
func (m *model) way(at int) []int {
	var out []int
	for ; at != none; at = m.ahead(at) {
		out = append(out, at)
	}
	slices.Reverse(out)
	return out
}

// ahead: the place ahead of one.
func (m *model) ahead(at int) int {
	x, _ := m.tree.At(at)
	return x.Ahead
}

// refusal: what all deeds answer of a place of which nothing may be said.
func (m *model) refusal(at int) api.Errno {
	switch {
	case at < 0 || at >= m.tree.Len():
		return api.ErrNone
	case at == 0:
		return api.ErrArg
	}
	return api.OK
}

// verdict: as Verdict.
func (m *model) verdict(at int, right bool) api.Errno {
	one, other := m.wrong, m.right
	if right {
		one, other = m.right, m.wrong
	}
	if e := m.refusal(at); e != api.OK {
		return e
	}
	if in(other, at) {
		return api.ErrArg
	}
	one[at] = struct{}{}
	return api.OK
}

// invalidate: as Invalidate.
func (m *model) invalidate(at int) api.Errno {
	e := m.refusal(at)
	if e == api.OK {
		m.out[at] = struct{}{}
	}
	return e
}

// reconsider: as Reconsider.
func (m *model) reconsider(at int) api.Errno {
	e := m.refusal(at)
	for place := range m.tree.Len() {
		if e == api.OK && (slices.Contains(m.way(place), at) || slices.Contains(m.way(at), place)) {
			delete(m.out, place)
			delete(m.wrong, place)
		}
	}
	return e
}

// failed: whether a block, or one ahead of it, failed; valid: whether none did, and all are right.
func (m *model) failed(at int) bool {
	return slices.ContainsFunc(m.way(at), func(place int) bool { return in(m.wrong, place) || in(m.out, place) })
}

func (m *model) valid(at int) bool {
	unlike := func(place int) bool { return !in(m.right, place) }
	return !m.failed(at) && !slices.ContainsFunc(m.way(at), unlike)
}

// order: which of two places comes first.
func (m *model) order(one, other int) int {
	a, _ := m.tree.At(one)
	b, _ := m.tree.At(other)
	for i := 3; i >= 0; i-- {
		if a.Work[i] != b.Work[i] {
			return cmp.Compare(b.Work[i], a.Work[i])
		}
	}
	return cmp.Compare(one, other)
}

// picked: the places that are picked, the heaviest first.
func (m *model) picked(pick func(at int) bool) []int {
	var out []int
	for at := range m.tree.Len() {
		if pick(at) {
			out = append(out, at)
		}
	}
	slices.SortFunc(out, m.order)
	return out
}

// tip: the row's last place; target: the heaviest one that is valid.
func (m *model) tip() int { return m.row[len(m.row)-1] }

func (m *model) target() int { return m.picked(m.valid)[0] }

// step: as Step.
func (m *model) step() bool {
	way := m.way(m.target())
	switch size := len(m.row); {
	case m.tip() == m.target():
		return false
	case !slices.Contains(way, m.tip()):
		m.row = m.row[:size-1]
	default:
		m.row = append(m.row, way[size])
	}
	return true
}

// settle: as Settle.
func (m *model) settle() int {
	n := 0
	for m.step() {
		n++
	}
	return n
}

// look: all that a model tells.
func (m *model) look() view {
	v := view{tip: m.tip(), target: m.target(), size: m.tree.Len(), active: slices.Clone(m.row)}
	v.lead = m.picked(func(at int) bool { return !m.failed(at) })[0]
	tipHolds := m.valid(m.tip())
	v.heads = m.picked(func(at int) bool { return m.valid(at) && !(tipHolds && m.order(m.tip(), at) < 0) })
	for at := range v.size {
		said := mark.Unknown
		switch {
		case in(m.right, at):
			said = mark.Right
		case in(m.wrong, at):
			said = mark.Wrong
		}
		if in(m.out, at) {
			said += 4
		}
		v.said = append(v.said, said)
	}
	return v
}

// same: a chain must tell just what its model does.
func same(t testing.TB, c *chain.Chain, m *model) {
	t.Helper()
	if got, want := look(c), m.look(); !reflect.DeepEqual(got, want) {
		t.Fatalf("%+v, not %+v", got, want)
	}
}

func TestP17_1NewIsTheGenesis(t *testing.T) {
	for _, p := range []api.Params{usual, quick} {
		for _, room := range []int{math.MinInt, -1, 0, 1, 2, 511, 512, 513, math.MaxInt} {
			c := made(t, p, room)
			active(t, c, 0)
			heads(t, c, 0)
			aims(t, c, 0, 0)
			settles(t, c, 0)
			if x := c.Tree(); x.Len() != 1 || x.Room() != min(max(room, 1), api.MaxStored) || !reflect.DeepEqual(x.Rules(), p) {
				t.Errorf("%d: %d, %d, %+v", room, x.Len(), x.Room(), x.Rules())
			}
			same(t, c, newModel(c.Tree()))
		}
	}
}

func TestP17_1NewOfRulesThatCantBe(t *testing.T) {
	interval, genesis, gates, checks := usual, usual, usual, usual
	interval.Interval = 0
	genesis.Genesis.Time = -1
	gates.Gates = []api.Gate{{Height: 2}, {Height: 1}}
	checks.Checks = []api.Check{{Height: 0}}
	for _, p := range []api.Params{{}, interval, genesis, gates, checks} {
		if c, e := chain.New(p, 100); c != nil || e != api.ErrArg {
			t.Errorf("%+v: %v, %d", p, c, e)
		}
	}
}

func TestP17_1AddIsTheTrees(t *testing.T) {
	p := usual
	p.Gates = []api.Gate{{Height: 0, Version: 1}}
	p.Checks = []api.Check{{Height: 2, Id: api.Hash{7}}}
	c := made(t, p, 3)
	x, _ := skip.New(p, 3)
	add := func(h api.Header, now, at int, why rule.Reason, e api.Errno) {
		t.Helper()
		gotAt, gotWhy, got := c.Add(h, now)
		if gotAt != at || gotWhy != why || got != e {
			t.Errorf("%+v: %d, %d, %d, not %d, %d, %d", h, gotAt, gotWhy, got, at, why, e)
		}
		if treesAt, treesWhy, trees := x.Add(h, now); gotAt != treesAt || gotWhy != treesWhy || got != trees {
			t.Errorf("%+v: of a tree %d, %d, %d", h, treesAt, treesWhy, trees)
		}
	}
	one := next(t, x, 0, 11, 1)
	change := func(does func(h *api.Header)) api.Header {
		h := one
		does(&h)
		return mined(t, h)
	}
	add(p.Genesis, 0, 0, rule.Fine, api.OK)
	add(api.Header{Version: 1 << 40}, late, none, rule.NoHeader, api.ErrRule)
	add(api.Header{Prev: api.Hash{1}}, late, none, rule.Elsewhere, api.ErrNone)
	add(change(func(h *api.Header) { h.Bits = 0x2070ffff }), late, none, rule.WrongBits, api.ErrRule)
	bad := one
	for bad.Nonce = 0; rule.Itself(p, bad) == rule.Fine; bad.Nonce++ {
	}
	add(bad, late, none, rule.NoWork, api.ErrRule)
	add(change(func(h *api.Header) { h.Time = 50 }), late, none, rule.TooOld, api.ErrRule)
	add(one, one.Time-101, none, rule.TooNew, api.ErrRule)
	add(change(func(h *api.Header) { h.Version = 0 }), late, none, rule.OldVersion, api.ErrRule)
	same(t, c, newModel(c.Tree()))
	add(one, one.Time-100, 1, rule.Fine, api.OK)
	add(next(t, x, 1, 11, 2), late, none, rule.OffTrack, api.ErrRule)
	add(next(t, x, 0, 11, 3), late, 2, rule.Fine, api.OK)
	add(next(t, x, 0, 11, 4), late, none, rule.Fine, api.ErrFull)
	add(one, 0, 1, rule.Fine, api.OK) // it is there
	if x, is := c.Tree().At(1); !is || x.Header != one || c.Tree().Len() != 3 {
		t.Errorf("%+v of %d", x, c.Tree().Len())
	}
	same(t, c, newModel(c.Tree()))
}

func TestP17_1AddMakesNoStepAndNoCandidate(t *testing.T) {
	c := made(t, usual, 50)
	for n := 1; n < 6; n++ {
		grow(t, c, n-1, 11)
		active(t, c, 0)
		heads(t, c, 0)
		aims(t, c, 0, n)
		settles(t, c, 0) // nothing is said of them
	}
	right(t, c, 1, 2)
	settles(t, c, 2)
	grow(t, c, 1, 11)
	grow(t, c, 6, 11)
	active(t, c, 0, 1, 2)
	heads(t, c, 2)
	settles(t, c, 0)
}

func TestP17_1NoDeedMakesAStep(t *testing.T) {
	c := byHand(t)
	right(t, c, 1, 2, 3, 4)
	active(t, c, 0)
	aims(t, c, 4, 4)
	settles(t, c, 4)
	does(t, c.Invalidate(2), api.OK)
	active(t, c, 0, 1, 2, 3, 4) // though three of them aren't valid
	aims(t, c, 1, 1)
	does(t, c.Verdict(8, false), api.OK)
	active(t, c, 0, 1, 2, 3, 4)
	aims(t, c, 1, 1)
	settles(t, c, 3)
	does(t, c.Reconsider(2), api.OK)
	active(t, c, 0, 1)
	aims(t, c, 4, 4)
	settles(t, c, 3)
	for range 3 { // nor do those that ask
		look(c)
		active(t, c, 0, 1, 2, 3, 4)
	}
}

func TestP17_1StepByStep(t *testing.T) {
	c := byHand(t)
	right(t, c, 1, 2, 3, 4)
	steps(t, c, 0, 1)
	steps(t, c, 0, 1, 2)
	steps(t, c, 0, 1, 2, 3)
	steps(t, c, 0, 1, 2, 3, 4)
	settles(t, c, 0)
	right(t, c, 5, 7, 8)
	does(t, c.Invalidate(3), api.OK)
	aims(t, c, 7, 7)
	steps(t, c, 0, 1, 2, 3)
	steps(t, c, 0, 1, 2)
	steps(t, c, 0, 1, 2, 5)
	steps(t, c, 0, 1, 2, 5, 7)
	settles(t, c, 0)
	does(t, c.Invalidate(1), api.OK)
	steps(t, c, 0, 1, 2, 5)
	steps(t, c, 0, 1, 2)
	steps(t, c, 0, 1)
	steps(t, c, 0)
	steps(t, c, 0, 8)
	settles(t, c, 0)
	does(t, c.Invalidate(8), api.OK)
	steps(t, c, 0)
	settles(t, c, 0)
}

func TestP17_1DeedsAmongSteps(t *testing.T) {
	c := byHand(t)
	right(t, c, 1, 2, 3, 4, 8)
	steps(t, c, 0, 1)
	steps(t, c, 0, 1, 2)
	does(t, c.Invalidate(1), api.OK)
	steps(t, c, 0, 1)
	does(t, c.Reconsider(4), api.OK) // of 1 too, that is ahead
	steps(t, c, 0, 1, 2)
	right(t, c, 5, 7)
	aims(t, c, 4, 4) // as much work, and later
	does(t, c.Invalidate(4), api.OK)
	aims(t, c, 7, 7)
	steps(t, c, 0, 1, 2, 5)
	grow(t, c, 7, 11)
	right(t, c, 9)
	does(t, c.Reconsider(4), api.OK)
	aims(t, c, 9, 9)
	settles(t, c, 2)
	active(t, c, 0, 1, 2, 5, 7, 9)
}

func TestP17_1AsMuchWork(t *testing.T) {
	c := byHand(t)
	right(t, c, 1, 2, 5, 6)
	settles(t, c, 3)
	active(t, c, 0, 1, 2, 5) // of 5 and 6 the one that came first
	heads(t, c, 5)
	right(t, c, 7)
	settles(t, c, 1)
	right(t, c, 3)
	settles(t, c, 0)
	right(t, c, 4) // it has been stored ahead of 7, though its verdict comes later
	heads(t, c, 4, 7)
	settles(t, c, 4)
	active(t, c, 0, 1, 2, 3, 4)
	heads(t, c, 4)
	grow(t, c, 6, 11)
	right(t, c, 9)
	settles(t, c, 0) // it came later
	heads(t, c, 4)
	grow(t, c, 9, 11)
	right(t, c, 10)
	heads(t, c, 10, 4)
	settles(t, c, 5)
	active(t, c, 0, 1, 2, 6, 9, 10)
}

func TestP17_1WorkCountsNotHeight(t *testing.T) {
	c := made(t, quick, 50)
	for _, ahead := range []int{0, 1, 2, 3, 4, 5} { // 1 to 6: six slow ones
		grow(t, c, ahead, 20)
	}
	grow(t, c, 0, 1)
	grow(t, c, 7, 1) // 8: the second one of two fast ones, at the first height with harder bits: as much work as 5 has
	grow(t, c, 8, 1) // 9
	works := []uint64{2, 4, 6, 8, 10, 12, 14, 4, 12, 20}
	for at, want := range works {
		if got, _ := c.Tree().At(at); got.Work != (api.Num{want}) {
			t.Fatalf("%d: %d, not %d", at, got.Work, want)
		}
	}
	aims(t, c, 0, 9)
	right(t, c, 1, 2, 3, 4, 5, 6, 7, 8)
	heads(t, c, 6, 5, 8, 4, 3, 2, 1, 7, 0)
	settles(t, c, 6)
	heads(t, c, 6)
	right(t, c, 9)
	heads(t, c, 9, 6)
	settles(t, c, 9)
	active(t, c, 0, 7, 8, 9)
	heads(t, c, 9)
	does(t, c.Invalidate(9), api.OK)
	heads(t, c, 6, 5, 8, 4, 3, 2, 1, 7, 0)
	does(t, c.Invalidate(6), api.OK)
	settles(t, c, 8)
	active(t, c, 0, 1, 2, 3, 4, 5)
	heads(t, c, 5)
	does(t, c.Invalidate(5), api.OK)
	aims(t, c, 8, 8)
	settles(t, c, 7)
	active(t, c, 0, 7, 8)
}

func TestP17_1CandidatesByHand(t *testing.T) {
	c := byHand(t)
	heads(t, c, 0)
	right(t, c, 2) // nothing is said of the one ahead of it
	heads(t, c, 0)
	right(t, c, 8)
	heads(t, c, 8, 0)
	right(t, c, 1)
	heads(t, c, 2, 1, 8, 0)
	settles(t, c, 2)
	heads(t, c, 2)
	right(t, c, 3, 4, 5, 6, 7)
	heads(t, c, 4, 7, 3, 5, 6, 2) // the tip is heavier than the others
	does(t, c.Invalidate(3), api.OK)
	heads(t, c, 7, 5, 6, 2)
	does(t, c.Invalidate(2), api.OK) // the tip isn't valid
	heads(t, c, 1, 8, 0)
	does(t, c.Invalidate(1), api.OK)
	heads(t, c, 8, 0)
	settles(t, c, 3)
	heads(t, c, 8)
	does(t, c.Reconsider(2), api.OK)
	heads(t, c, 4, 7, 3, 5, 6, 2, 1, 8) // 0 is lighter than the tip
	settles(t, c, 5)
	heads(t, c, 4)
	does(t, c.Invalidate(8), api.OK)
	heads(t, c, 4)
	does(t, c.Invalidate(4), api.OK)
	heads(t, c, 7, 3, 5, 6, 2, 1, 0)
	does(t, c.Invalidate(1), api.OK)
	heads(t, c, 0)
	settles(t, c, 4)
	active(t, c, 0)
	heads(t, c, 0)
}

func TestP17_1LeadIsOfAllThatHaventFailed(t *testing.T) {
	c := byHand(t)
	aims(t, c, 0, 4)
	right(t, c, 1, 2, 5, 7)
	settles(t, c, 4)
	aims(t, c, 7, 4)
	does(t, c.Verdict(3, false), api.OK)
	aims(t, c, 7, 7)
	does(t, c.Invalidate(5), api.OK)
	aims(t, c, 2, 6)
	does(t, c.Invalidate(1), api.OK)
	aims(t, c, 0, 8)
	does(t, c.Verdict(8, false), api.OK)
	aims(t, c, 0, 0)
	does(t, c.Reconsider(3), api.OK)
	aims(t, c, 2, 4)
}

func TestP17_1Errors(t *testing.T) {
	c := byHand(t)
	m := newModel(c.Tree())
	for _, at := range []int{1, 2, 3} {
		right(t, c, at)
		m.verdict(at, true)
	}
	does(t, c.Verdict(5, false), api.OK)
	m.verdict(5, false)
	settles(t, c, m.settle())
	for _, at := range append([]int{9, 10, 49, 50}, noPlaces...) { // the tree has room for some of them, but they aren't there
		does(t, c.Verdict(at, true), api.ErrNone)
		does(t, c.Verdict(at, false), api.ErrNone)
		does(t, c.Invalidate(at), api.ErrNone)
		does(t, c.Reconsider(at), api.ErrNone)
		same(t, c, m)
	}
	does(t, c.Verdict(0, true), api.ErrArg)
	does(t, c.Verdict(0, false), api.ErrArg)
	does(t, c.Invalidate(0), api.ErrArg)
	does(t, c.Reconsider(0), api.ErrArg)
	does(t, c.Verdict(3, false), api.ErrArg) // the other one was said
	does(t, c.Verdict(5, true), api.ErrArg)
	same(t, c, m)
	does(t, c.Verdict(3, true), api.OK) // nothing more
	does(t, c.Verdict(5, false), api.OK)
	same(t, c, m)
	settles(t, c, 0)
}

func TestP17_1NilChain(t *testing.T) {
	var c *chain.Chain
	for _, h := range []api.Header{{}, usual.Genesis, {Version: 1 << 40}} {
		if at, why, e := c.Add(h, late); at != none || why != rule.Fine || e != api.ErrNil {
			t.Errorf("%d, %d, %d", at, why, e)
		}
	}
	for _, at := range append([]int{0, 1, 2}, noPlaces...) {
		does(t, c.Verdict(at, true), api.ErrNil)
		does(t, c.Verdict(at, false), api.ErrNil)
		does(t, c.Invalidate(at), api.ErrNil)
		does(t, c.Reconsider(at), api.ErrNil)
	}
	if c.Tip() != none || c.Target() != none || c.Lead() != none || c.Step() || c.Settle() != 0 {
		t.Errorf("%d, %d, %d", c.Tip(), c.Target(), c.Lead())
	}
	if len(c.Active()) != 0 || len(c.Heads()) != 0 || c.Tree() != nil || c.Marks() != nil {
		t.Errorf("%d, %d", c.Active(), c.Heads())
	}
}

func TestP17_1TreeAndMarksThemselves(t *testing.T) {
	c := made(t, usual, 50)
	x, m := c.Tree(), c.Marks()
	for _, ahead := range []int{0, 1, 0} {
		grow(t, c, ahead, 11)
	}
	right(t, c, 1)
	does(t, c.Verdict(2, false), api.OK)
	does(t, c.Invalidate(3), api.OK)
	settles(t, c, 1)
	if c.Tree() != x || c.Marks() != m || x.Len() != 4 {
		t.Errorf("others, %d", x.Len())
	}
	if !m.Valid(1) || !m.Failed(2) || !m.Failed(3) || m.Best() != 1 || m.Lead() != 1 {
		t.Errorf("%d, %d", m.Best(), m.Lead())
	}
}

func TestP17_1TwoChainsKnowNothingOfOneAnother(t *testing.T) {
	c, other := byHand(t), byHand(t)
	right(t, c, 1, 2, 3)
	does(t, other.Invalidate(4), api.OK)
	right(t, other, 8)
	settles(t, c, 3)
	settles(t, other, 1)
	grow(t, c, 3, 11)
	active(t, c, 0, 1, 2, 3)
	active(t, other, 0, 8)
	aims(t, c, 3, 4)
	aims(t, other, 8, 7)
	if c.Tree().Len() != 10 || other.Tree().Len() != 9 {
		t.Errorf("%d, %d", c.Tree().Len(), other.Tree().Len())
	}
}

func TestP17_1WhatIsHandedInStaysAndIsntKept(t *testing.T) {
	gates := []api.Gate{{Height: 0, Version: 1}, {Height: 9, Version: 9}}
	checks := []api.Check{{Height: 500}, {Height: 501}}
	p := usual
	p.Gates, p.Checks = gates[:1], checks[:1]
	c := made(t, p, 50)
	grow(t, c, 0, 11)
	right(t, c, 1)
	settles(t, c, 1)
	if gates[0] != (api.Gate{Height: 0, Version: 1}) || gates[1] != (api.Gate{Height: 9, Version: 9}) || checks[0].Height != 500 || checks[1].Height != 501 {
		t.Errorf("%+v, %+v", gates, checks)
	}
	gates[0].Version, checks[0].Height = 2, 2
	grow(t, c, 1, 11) // of version 1, and no check stands at its height
	right(t, c, 2)
	settles(t, c, 1)
}

func TestP17_1WhatIsToldIsNew(t *testing.T) {
	c := byHand(t)
	right(t, c, 1, 2, 3, 4, 5, 7, 8)
	for _, want := range [][]int{{0}, {0, 1}, {0, 1, 2}} {
		for range 2 {
			active(t, c, want...)
			for _, list := range [][]int{c.Active(), c.Heads()} {
				list = list[:cap(list)]
				for i := range list {
					list[i] = 6
				}
			}
		}
		c.Step()
	}
	row, all := c.Active(), c.Heads()
	c.Settle()
	does(t, c.Invalidate(1), api.OK)
	c.Settle()
	if !slices.Equal(row, []int{0, 1, 2, 3}) || !slices.Equal(all, []int{4, 7, 3}) {
		t.Errorf("%d, %d", row, all)
	}
	active(t, c, 0, 8)
	heads(t, c, 8)
}

// anyPlace: a place of a tree, mostly.
func anyPlace(r *rand.Rand, count int) int {
	switch r.Intn(24) {
	case 0:
		return noPlaces[r.Intn(len(noPlaces))]
	case 1:
		return count + r.Intn(3)
	}
	return r.Intn(count)
}

// deed: one at random, to a chain and to its model, which must answer alike.
func deed(t testing.TB, r *rand.Rand, c *chain.Chain, m *model) {
	t.Helper()
	at := anyPlace(r, m.tree.Len())
	switch r.Intn(16) {
	case 0, 1, 2, 3, 4, 5, 6:
		does(t, c.Verdict(at, true), m.verdict(at, true))
	case 7:
		does(t, c.Verdict(at, false), m.verdict(at, false))
	case 8, 9:
		does(t, c.Invalidate(at), m.invalidate(at))
	case 10, 11:
		does(t, c.Reconsider(at), m.reconsider(at))
	case 12, 13, 14:
		if got, want := c.Step(), m.step(); got != want {
			t.Fatalf("%t, not %t", got, want)
		}
	default:
		if got, want := c.Settle(), m.settle(); got != want {
			t.Fatalf("%d steps, not %d", got, want)
		}
	}
}

// growAny: a header more behind any place of a chain's tree, unless there is no room, or its bits are hard by now.
func growAny(t testing.TB, r *rand.Rand, c *chain.Chain) {
	t.Helper()
	x := c.Tree()
	ahead := r.Intn(x.Len())
	if r.Intn(2) == 0 {
		ahead = x.Len() - 1 - r.Intn(min(x.Len(), 3))
	}
	spot, _ := x.Spot(ahead)
	if x.Len() < x.Room() && spot.Bits>>24 > 0x1e {
		grow(t, c, ahead, 1+r.Intn(40))
	}
}

func TestP17_1AnyOrder(t *testing.T) {
	moved, lost := 0, 0
	for seed := range int64(24) {
		r := rand.New(rand.NewSource(170 + seed))
		p := usual
		if seed%2 == 0 {
			p = quick
		}
		c := made(t, p, 30)
		m := newModel(c.Tree())
		for range 600 {
			if r.Intn(8) == 0 {
				growAny(t, r, c)
			}
			before := len(m.row)
			deed(t, r, c, m)
			same(t, c, m)
			if len(m.row) < before {
				lost++
			} else if len(m.row) > before {
				moved++
			}
		}
	}
	if moved < 500 || lost < 500 {
		t.Errorf("too few steps for a test: %d, %d", moved, lost)
	}
}

func TestP17_1ALargeTree(t *testing.T) {
	c := made(t, usual, api.MaxStored)
	for n := 1; n < api.MaxStored; n++ { // one line of 400, and one of the others behind its hundredth
		ahead := n - 1
		if n == 401 {
			ahead = 100
		}
		grow(t, c, ahead, 11)
	}
	for at := 1; at < api.MaxStored; at++ {
		does(t, c.Verdict(at, true), api.OK)
	}
	if got := c.Heads(); len(got) != api.MaxStored || got[0] != 400 {
		t.Errorf("%d", got)
	}
	settles(t, c, 400)
	does(t, c.Invalidate(150), api.OK)
	settles(t, c, 300+111)
	if row := c.Active(); len(row) != 1+100+111 || row[100] != 100 || row[101] != 401 || c.Tip() != 511 {
		t.Errorf("%d", row)
	}
	if got := c.Heads(); !slices.Equal(got, []int{511}) {
		t.Errorf("%d", got)
	}
	does(t, c.Reconsider(400), api.OK)
	settles(t, c, 111+300)
	active(t, c, append([]int{0}, c.Tree().Path(400)...)...)
}

// rows: the rows that a chain goes through until it has settled, the first and the last one too.
func rows(c *chain.Chain) [][]int {
	out := [][]int{c.Active()}
	for c.Step() {
		out = append(out, c.Active())
	}
	return out
}

// hangs: a row must hang together, from the genesis on.
func hangs(t testing.TB, x *skip.Tree, row []int) {
	t.Helper()
	ahead := none
	for _, at := range row {
		if entry, is := x.At(at); !is || entry.Ahead != ahead {
			t.Fatalf("%d: behind %d stands %d", row, ahead, at)
		}
		ahead = at
	}
}

// straight: the rows of one settling must lose what isn't on the way to the last one's tip, one by one, then have one more each; and nothing else.
func straight(t testing.TB, x *skip.Tree, rows [][]int) {
	t.Helper()
	last := rows[len(rows)-1]
	for i, row := range rows {
		hangs(t, x, row)
		if i == 0 {
			continue
		}
		was := rows[i-1]
		leaves := !slices.Contains(last, was[len(was)-1])
		if leaves && !slices.Equal(row, was[:len(was)-1]) {
			t.Fatalf("%d doesn't leave %d, on the way to %d", row, was, last)
		}
		if !leaves && !slices.Equal(row, last[:len(was)+1]) {
			t.Fatalf("%d isn't one more than %d, on the way to %d", row, was, last)
		}
	}
}

// chosen: a chain that has settled must have the heaviest valid block for a tip, of as much work the first one.
func chosen(t testing.TB, c *chain.Chain) {
	t.Helper()
	var tip arena.Entry
	m := newModel(c.Tree())
	best := none
	for at := range c.Tree().Len() {
		entry, _ := c.Tree().At(at)
		valid := true
		for _, place := range m.way(at) {
			said, out := c.Marks().Said(place)
			valid = valid && said == mark.Right && !out
		}
		if valid && (best == none || slices.Compare(reversed(entry.Work), reversed(tip.Work)) > 0) {
			best, tip = at, entry
		}
	}
	if c.Tip() != best || c.Target() != best {
		t.Fatalf("%d, %d, not %d", c.Tip(), c.Target(), best)
	}
	hangs(t, c.Tree(), c.Active())
}

// reversed: a number's words, the highest first.
func reversed(n api.Num) []uint64 {
	slices.Reverse(n[:])
	return n[:]
}

// twins: two chains to which the same was done.
type twins struct{ one, other *chain.Chain }

func (w twins) do(t testing.TB, deed func(c *chain.Chain) api.Errno) {
	t.Helper()
	if a, b := deed(w.one), deed(w.other); a != b {
		t.Fatalf("%d, %d", a, b)
	}
}

// settle: the one settles at once, the other by steps: both the same way, and straight.
func (w twins) settle(t testing.TB) int {
	t.Helper()
	all := rows(w.other)
	straight(t, w.other.Tree(), all)
	if got := w.one.Settle(); got != len(all)-1 {
		t.Fatalf("%d steps, not %d", got, len(all)-1)
	}
	chosen(t, w.one)
	if one, other := look(w.one), look(w.other); !reflect.DeepEqual(one, other) {
		t.Fatalf("%+v, not %+v", one, other)
	}
	return len(all) - 1
}

func TestP17_2EachRuledOutAndReconsidered(t *testing.T) {
	for at := 1; at <= 8; at++ {
		w := twins{byHand(t), byHand(t)}
		for place := 1; place <= 8; place++ {
			w.do(t, func(c *chain.Chain) api.Errno { return c.Verdict(place, true) })
		}
		if n := w.settle(t); n != 4 {
			t.Errorf("%d steps", n)
		}
		before := look(w.one)
		w.do(t, func(c *chain.Chain) api.Errno { return c.Invalidate(at) })
		went := w.settle(t)
		w.do(t, func(c *chain.Chain) api.Errno { return c.Reconsider(at) })
		if back := w.settle(t); back != went || (back == 0) != (at > 4) {
			t.Errorf("%d: %d steps, and %d", at, went, back)
		}
		if got := look(w.one); !reflect.DeepEqual(got, before) {
			t.Errorf("%d: %+v, not %+v", at, got, before)
		}
	}
}

func TestP17_2TheWayIsTheShortest(t *testing.T) {
	for _, one := range []int{0, 1, 2, 3, 4, 5, 6, 7, 8} {
		for _, other := range []int{0, 1, 2, 3, 4, 5, 6, 7, 8} {
			c := byHand(t)
			m := newModel(c.Tree())
			only := func(tip int) { // just the way to it is valid
				for at := 1; at <= 8; at++ {
					if !slices.Contains(m.way(tip), at) {
						does(t, c.Invalidate(at), api.OK)
					}
				}
			}
			for at := 1; at <= 8; at++ {
				right(t, c, at)
			}
			only(one)
			settles(t, c, len(m.way(one))-1)
			active(t, c, m.way(one)...)
			for at := 1; at <= 8; at++ {
				does(t, c.Reconsider(at), api.OK)
			}
			only(other)
			part := 0
			for part < len(m.way(one)) && part < len(m.way(other)) && m.way(one)[part] == m.way(other)[part] {
				part++
			}
			settles(t, c, len(m.way(one))+len(m.way(other))-2*part)
			active(t, c, m.way(other)...)
		}
	}
}

func TestP17_2AnyDeeds(t *testing.T) {
	far := 0
	for seed := range int64(16) {
		r := rand.New(rand.NewSource(1700 + seed))
		p := usual
		if seed%2 == 0 {
			p = quick
		}
		w := twins{made(t, p, 30), made(t, p, 30)}
		for range 200 {
			if r.Intn(4) == 0 {
				same := r.Int63() // for both
				growAny(t, rand.New(rand.NewSource(same)), w.one)
				growAny(t, rand.New(rand.NewSource(same)), w.other)
			}
			at, kind := anyPlace(r, w.one.Tree().Len()), r.Intn(10)
			for range 1 + r.Intn(4) {
				w.do(t, func(c *chain.Chain) api.Errno {
					switch {
					case kind < 6:
						return c.Verdict(at, true)
					case kind < 7:
						return c.Verdict(at, false)
					case kind < 8:
						return c.Invalidate(at)
					}
					return c.Reconsider(at)
				})
				at, kind = anyPlace(r, w.one.Tree().Len()), r.Intn(10)
			}
			if w.settle(t) > 2 {
				far++
			}
		}
	}
	if far < 50 {
		t.Errorf("just %d", far)
	}
}
