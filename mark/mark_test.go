package mark_test

import (
	"math"
	"math/rand"
	"reflect"
	"slices"
	"testing"

	"trailhead/api"
	"trailhead/arena"
	"trailhead/header"
	"trailhead/mark"
	"trailhead/pace"
	"trailhead/skip"
)

// easiest is the limit of the rules here: every other name meets it.
const easiest = 0x207fffff

// late is a clock by which no header here comes too early.
const late = 1 << 20

// none is no place.
const none = -1

// usual are rules that can be; who takes eleven seconds a block, or more, keeps the easiest bits.
var usual = api.Params{
	Limit: easiest, Interval: 64, Spacing: 10, Future: 100,
	Genesis: api.Header{Version: 1, Time: 50, Bits: easiest},
}

// quick are rules by which the target is set anew every other block: a chain of few that came fast is heavier than one of many that came slowly.
var quick = api.Params{
	Limit: easiest, Interval: 2, Spacing: 10, Future: 100,
	Genesis: api.Header{Version: 1, Time: 50, Bits: easiest},
}

// noPlaces are numbers that are no places of any tree.
var noPlaces = []int{math.MinInt, math.MinInt + 1, -1 << 32, -2, -1, 512, 513, 1 << 32, math.MaxInt - 1, math.MaxInt}

// made: a tree.
func made(t testing.TB, p api.Params, room int) *skip.Tree {
	t.Helper()
	x, e := skip.New(p, room)
	if e != api.OK {
		t.Fatalf("%+v, %d: %d", p, room, e)
	}
	return x
}

// grow: a header more in a tree, behind a place, so many seconds later.
func grow(t testing.TB, x *skip.Tree, ahead, seconds int) {
	t.Helper()
	n := x.Len()
	at, _ := x.At(ahead)
	spot, _ := x.Spot(ahead)
	h := api.Header{Version: 1, Prev: at.Id, Time: at.Header.Time + seconds}
	h.Bits = pace.Next(x.Rules(), spot.Point, h.Time)
	h.Root[0], h.Root[1] = byte(n), byte(n>>8)
	h, found := header.Seek(h, 1<<20)
	if place, why, e := x.Add(h, late); !found || place != n || e != api.OK {
		t.Fatalf("%+v: at %d, %d, %d, not at %d", h, place, why, e, n)
	}
}

// byHand: a line of four behind the genesis, at the places 1 to 4; 5 and 6 branch off behind 2, 7 behind 5, 8 behind the genesis. Heights: 0 1 2 3 4 3 3 4 1; the heaviest first: 4 7 3 5 6 2 1 8 0.
func byHand(t testing.TB) *skip.Tree {
	t.Helper()
	x := made(t, usual, 50)
	for _, ahead := range []int{0, 1, 2, 3, 2, 2, 5, 0} {
		grow(t, x, ahead, 11)
	}
	return x
}

// model is what is said of the blocks of a tree, the plain way: all of each block is reckoned anew.
type model struct {
	tree  *skip.Tree
	right map[int]struct{}
	wrong map[int]struct{}
	out   map[int]struct{}
}

func newModel(x *skip.Tree) *model {
	return &model{tree: x, right: map[int]struct{}{0: {}}, wrong: map[int]struct{}{}, out: map[int]struct{}{}}
}

// in: whether a place is one of some.
func in(set map[int]struct{}, at int) bool {
	_, is := set[at]
	return is
}

// ways: of each place those ahead of it and itself, the genesis first.
func ways(x *skip.Tree) [][]int {
	out := [][]int{{0}}
	for at := 1; at < x.Len(); at++ {
		entry, _ := x.At(at)
		out = append(out, append(slices.Clone(out[entry.Ahead]), at))
	}
	return out
}

// refusal: what all deeds answer of a place of which nothing may be said.
func (m *model) refusal(at int) api.Errno {
	switch {
	case at < 0 || at >= m.tree.Len():
		return api.ErrNone
	case at == 0:
		return api.ErrArg
	}
	return api.OK
}

// verdict: as Verdict.
func (m *model) verdict(at int, right bool) api.Errno {
	one, other := m.wrong, m.right
	if right {
		one, other = m.right, m.wrong
	}
	if e := m.refusal(at); e != api.OK {
		return e
	}
	if in(other, at) {
		return api.ErrArg
	}
	one[at] = struct{}{}
	return api.OK
}

// invalidate: as Invalidate.
func (m *model) invalidate(at int) api.Errno {
	e := m.refusal(at)
	if e == api.OK {
		m.out[at] = struct{}{}
	}
	return e
}

// reconsider: as Reconsider.
func (m *model) reconsider(at int) api.Errno {
	e := m.refusal(at)
	if e != api.OK {
		return e
	}
	for place, way := range ways(m.tree) {
		if slices.Contains(way, at) { // it is behind, or the place itself, all of whose way counts
			delete(m.out, place)
			delete(m.wrong, place)
		}
		if place == at {
			for _, ahead := range way {
				delete(m.out, ahead)
				delete(m.wrong, ahead)
			}
		}
	}
	return e
}

// told is what marks tell of one block.
type told struct {
	said                      int
	out, failed, child, valid bool
}

// of: what marks of this model tell of a place, by its way.
func (m *model) of(way []int) told {
	at := way[len(way)-1]
	x := told{out: in(m.out, at), valid: true}
	switch {
	case in(m.right, at):
		x.said = mark.Right
	case in(m.wrong, at):
		x.said = mark.Wrong
	}
	for _, place := range way {
		failed := in(m.wrong, place) || in(m.out, place)
		x.failed = x.failed || failed
		x.child = x.child || failed && place != at
		x.valid = x.valid && !failed && in(m.right, place)
	}
	return x
}

// more: whether one number is above another one.
func more(a, b api.Num) bool {
	for i := 3; i >= 0; i-- {
		if a[i] != b[i] {
			return a[i] > b[i]
		}
	}
	return false
}

// view is all that marks tell: of each place, and of all.
type view struct {
	blocks     []told
	best, lead int
}

// look: all that a model tells.
func (m *model) look() view {
	v := view{best: none, lead: none}
	var best, lead api.Num
	for at, way := range ways(m.tree) {
		x := m.of(way)
		entry, _ := m.tree.At(at)
		if x.valid && (v.best == none || more(entry.Work, best)) {
			v.best, best = at, entry.Work
		}
		if !x.failed && (v.lead == none || more(entry.Work, lead)) {
			v.lead, lead = at, entry.Work
		}
		v.blocks = append(v.blocks, x)
	}
	return v
}

// one: what marks tell of a place.
func one(m *mark.Marks, at int) told {
	said, out := m.Said(at)
	return told{said, out, m.Failed(at), m.Child(at), m.Valid(at)}
}

// look: all that marks of a tree with so many tell.
func look(m *mark.Marks, count int) view {
	v := view{best: m.Best(), lead: m.Lead()}
	for at := range count {
		v.blocks = append(v.blocks, one(m, at))
	}
	return v
}

// same: marks must tell just what their model does, and nothing of what is no place.
func same(t testing.TB, m *mark.Marks, want *model) {
	t.Helper()
	count := want.tree.Len()
	if got, want := look(m, count), want.look(); !reflect.DeepEqual(got, want) {
		t.Fatalf("%+v, not %+v", got, want)
	}
	for _, at := range append([]int{count, count + 1}, noPlaces...) {
		if x := one(m, at); x != (told{}) {
			t.Fatalf("%d of %d: %+v", at, count, x)
		}
	}
}

// does: a deed must answer so.
func does(t testing.TB, got, want api.Errno) {
	t.Helper()
	if got != want {
		t.Fatalf("%d, not %d", got, want)
	}
}

// failed: just these of so many blocks must have failed.
func failed(t testing.TB, m *mark.Marks, count int, want ...int) {
	t.Helper()
	for at := range count {
		if m.Failed(at) != slices.Contains(want, at) {
			t.Fatalf("%d: %t, failed are %d", at, m.Failed(at), want)
		}
	}
}

// child: just these of so many blocks must have one ahead that failed.
func child(t testing.TB, m *mark.Marks, count int, want ...int) {
	t.Helper()
	for at := range count {
		if m.Child(at) != slices.Contains(want, at) {
			t.Fatalf("%d: %t, those behind such are %d", at, m.Child(at), want)
		}
	}
}

// valid: just these of so many blocks must be valid.
func valid(t testing.TB, m *mark.Marks, count int, want ...int) {
	t.Helper()
	for at := range count {
		if m.Valid(at) != slices.Contains(want, at) {
			t.Fatalf("%d: %t, valid are %d", at, m.Valid(at), want)
		}
	}
}

// says: so it must be said of a block.
func says(t testing.TB, m *mark.Marks, at, want int, out bool) {
	t.Helper()
	if said, is := m.Said(at); said != want || is != out {
		t.Fatalf("%d: %d, %t, not %d, %t", at, said, is, want, out)
	}
}

// heads: the best and the lead must be these.
func heads(t testing.TB, m *mark.Marks, best, lead int) {
	t.Helper()
	if m.Best() != best || m.Lead() != lead {
		t.Fatalf("%d, %d, not %d, %d", m.Best(), m.Lead(), best, lead)
	}
}

// right: all these are right.
func right(t testing.TB, m *mark.Marks, places ...int) {
	t.Helper()
	for _, at := range places {
		does(t, m.Verdict(at, true), api.OK)
	}
}

func TestP16_1TheNumbersOfWhatIsSaid(t *testing.T) {
	if mark.Unknown != 0 || mark.Right != 1 || mark.Wrong != 2 {
		t.Errorf("%d, %d, %d", mark.Unknown, mark.Right, mark.Wrong)
	}
}

func TestP16_1NewSaysNothingButOfTheGenesis(t *testing.T) {
	for _, x := range []*skip.Tree{made(t, usual, 1), byHand(t)} {
		m := mark.New(x)
		says(t, m, 0, mark.Right, false)
		for at := 1; at < x.Len(); at++ {
			says(t, m, at, mark.Unknown, false)
		}
		failed(t, m, 10)
		child(t, m, 10)
		valid(t, m, 10, 0)
		same(t, m, newModel(x))
	}
	heads(t, mark.New(made(t, usual, 1)), 0, 0)
	heads(t, mark.New(byHand(t)), 0, 4)
}

func TestP16_1VerdictsByHand(t *testing.T) {
	m := mark.New(byHand(t))
	right(t, m, 2) // nothing is said of the one ahead
	says(t, m, 2, mark.Right, false)
	valid(t, m, 10, 0)
	heads(t, m, 0, 4)
	right(t, m, 8)
	valid(t, m, 10, 0, 8)
	heads(t, m, 8, 4)
	right(t, m, 1)
	valid(t, m, 10, 0, 1, 2, 8)
	heads(t, m, 2, 4)
	right(t, m, 6)
	heads(t, m, 6, 4)
	right(t, m, 5) // as much work, and earlier
	heads(t, m, 5, 4)
	right(t, m, 7)
	heads(t, m, 7, 4)
	does(t, m.Verdict(3, false), api.OK)
	says(t, m, 3, mark.Wrong, false)
	says(t, m, 4, mark.Unknown, false)
	failed(t, m, 10, 3, 4)
	child(t, m, 10, 4)
	heads(t, m, 7, 7)
	right(t, m, 4) // behind a wrong one it is right in vain
	says(t, m, 4, mark.Right, false)
	failed(t, m, 10, 3, 4)
	valid(t, m, 10, 0, 1, 2, 5, 6, 7, 8)
	heads(t, m, 7, 7)
}

func TestP16_1TheOtherVerdictIsRefused(t *testing.T) {
	x := byHand(t)
	for _, first := range []bool{true, false} {
		m, want := mark.New(x), newModel(x)
		does(t, m.Verdict(3, first), api.OK)
		does(t, want.verdict(3, first), api.OK)
		for range 2 {
			does(t, m.Verdict(3, !first), api.ErrArg)
			same(t, m, want)
			does(t, m.Verdict(3, first), api.OK)
			same(t, m, want)
			does(t, m.Invalidate(3), api.OK) // to be ruled out isn't a verdict
			does(t, want.invalidate(3), api.OK)
			same(t, m, want)
		}
	}
}

func TestP16_1ARuledOutBlockTakesVerdicts(t *testing.T) {
	m := mark.New(byHand(t))
	right(t, m, 1, 2)
	does(t, m.Invalidate(3), api.OK)
	says(t, m, 3, mark.Unknown, true)
	right(t, m, 3)
	says(t, m, 3, mark.Right, true)
	failed(t, m, 10, 3, 4)
	valid(t, m, 10, 0, 1, 2)
	does(t, m.Verdict(3, false), api.ErrArg)
	says(t, m, 3, mark.Right, true)
	does(t, m.Reconsider(3), api.OK)
	says(t, m, 3, mark.Right, false)
	heads(t, m, 3, 4)
	does(t, m.Invalidate(8), api.OK)
	does(t, m.Verdict(8, false), api.OK)
	says(t, m, 8, mark.Wrong, true)
	does(t, m.Reconsider(8), api.OK)
	says(t, m, 8, mark.Unknown, false)
	right(t, m, 8) // of a block that was wrong the other may be said then
	says(t, m, 8, mark.Right, false)
}

func TestP16_1InvalidateByHand(t *testing.T) {
	for _, c := range []struct {
		at         int
		failed     []int
		best, lead int
	}{
		{1, []int{1, 2, 3, 4, 5, 6, 7}, 8, 8}, {2, []int{2, 3, 4, 5, 6, 7}, 1, 1}, {3, []int{3, 4}, 7, 7}, {4, []int{4}, 7, 7},
		{5, []int{5, 7}, 4, 4}, {6, []int{6}, 4, 4}, {7, []int{7}, 4, 4}, {8, []int{8}, 4, 4},
	} {
		m := mark.New(byHand(t))
		does(t, m.Invalidate(c.at), api.OK)
		heads(t, m, 0, c.lead)
		right(t, m, 1, 2, 3, 4, 5, 6, 7, 8)
		for range 2 { // once more is nothing more
			for at := range 9 {
				says(t, m, at, mark.Right, at == c.at)
			}
			failed(t, m, 10, c.failed...)
			child(t, m, 10, c.failed[1:]...)
			heads(t, m, c.best, c.lead)
			does(t, m.Invalidate(c.at), api.OK)
		}
		does(t, m.Reconsider(c.at), api.OK)
		failed(t, m, 10)
		heads(t, m, 4, 4)
	}
}

func TestP16_1ChildLooksAheadAlone(t *testing.T) {
	m := mark.New(byHand(t))
	does(t, m.Invalidate(2), api.OK)
	child(t, m, 10, 3, 4, 5, 6, 7)
	does(t, m.Verdict(5, false), api.OK) // it itself failed, and one ahead of it
	child(t, m, 10, 3, 4, 5, 6, 7)
	does(t, m.Invalidate(1), api.OK)
	child(t, m, 10, 2, 3, 4, 5, 6, 7)
	failed(t, m, 10, 1, 2, 3, 4, 5, 6, 7)
	heads(t, m, 0, 8)
	does(t, m.Verdict(8, false), api.OK)
	heads(t, m, 0, 0)
}

func TestP16_1ReconsiderByHand(t *testing.T) {
	for _, c := range []struct {
		at   int
		stay []int // those that have failed themselves still
	}{
		{1, []int{8}}, {2, []int{8}}, {3, []int{5, 6, 7, 8}}, {4, []int{5, 6, 7, 8}},
		{5, []int{3, 4, 6, 8}}, {6, []int{3, 4, 5, 7, 8}}, {7, []int{3, 4, 6, 8}}, {8, []int{1, 2, 3, 4, 5, 6, 7}},
	} {
		m, n, both := mark.New(byHand(t)), mark.New(byHand(t)), mark.New(byHand(t))
		for at := 1; at <= 8; at++ {
			does(t, m.Verdict(at, false), api.OK)
			does(t, n.Invalidate(at), api.OK)
			does(t, both.Verdict(at, at%2 == 0), api.OK)
			does(t, both.Invalidate(at), api.OK)
		}
		for range 2 {
			does(t, m.Reconsider(c.at), api.OK)
			does(t, n.Reconsider(c.at), api.OK)
			does(t, both.Reconsider(c.at), api.OK)
		}
		for at := 1; at <= 8; at++ {
			wrong, out := mark.Unknown, slices.Contains(c.stay, at)
			if out {
				wrong = mark.Wrong
			}
			says(t, m, at, wrong, false)
			says(t, n, at, mark.Unknown, out)
			if at%2 == 0 { // what is right stays so
				wrong = mark.Right
			}
			says(t, both, at, wrong, out)
		}
		for _, x := range []*mark.Marks{m, n, both} {
			says(t, x, 0, mark.Right, false)
		}
	}
}

func TestP16_1ReconsiderOfWhatHasntFailed(t *testing.T) {
	x := byHand(t)
	m, want := mark.New(x), newModel(x)
	for _, at := range []int{1, 3} {
		right(t, m, at)
		does(t, want.verdict(at, true), api.OK)
	}
	for at := 1; at <= 8; at++ {
		does(t, m.Reconsider(at), api.OK)
		same(t, m, want)
	}
	does(t, m.Verdict(2, false), api.OK)
	does(t, m.Invalidate(7), api.OK)
	does(t, m.Reconsider(6), api.OK) // of 2, that is ahead; 7 is on another branch
	says(t, m, 2, mark.Unknown, false)
	failed(t, m, 10, 7)
	does(t, m.Reconsider(1), api.OK)
	failed(t, m, 10)
	says(t, m, 1, mark.Right, false)
	says(t, m, 3, mark.Right, false)
}

func TestP16_1Errors(t *testing.T) {
	x := byHand(t)
	m, want := mark.New(x), newModel(x)
	does(t, m.Verdict(2, false), api.OK)
	does(t, want.verdict(2, false), api.OK)
	does(t, m.Invalidate(5), api.OK)
	does(t, want.invalidate(5), api.OK)
	for _, at := range append([]int{9, 10, 49, 50}, noPlaces...) { // the tree has room for some of them, but they aren't there
		does(t, m.Verdict(at, true), api.ErrNone)
		does(t, m.Verdict(at, false), api.ErrNone)
		does(t, m.Invalidate(at), api.ErrNone)
		does(t, m.Reconsider(at), api.ErrNone)
		same(t, m, want)
	}
	does(t, m.Verdict(0, true), api.ErrArg) // even what is said of it
	does(t, m.Verdict(0, false), api.ErrArg)
	does(t, m.Invalidate(0), api.ErrArg)
	does(t, m.Reconsider(0), api.ErrArg)
	same(t, m, want)
	says(t, m, 0, mark.Right, false)
	failed(t, m, 10, 2, 3, 4, 5, 6, 7)
}

func TestP16_1NilMarks(t *testing.T) {
	var m *mark.Marks
	of := mark.New(nil)
	for _, at := range append([]int{0, 1, 2}, noPlaces...) {
		for _, right := range []bool{true, false} {
			does(t, m.Verdict(at, right), api.ErrNil)
			does(t, of.Verdict(at, right), api.ErrNone) // the marks aren't nil, but their tree has no places
		}
		does(t, m.Invalidate(at), api.ErrNil)
		does(t, m.Reconsider(at), api.ErrNil)
		does(t, of.Invalidate(at), api.ErrNone)
		does(t, of.Reconsider(at), api.ErrNone)
		if x, y := one(m, at), one(of, at); x != (told{}) || y != (told{}) {
			t.Errorf("%d: %+v, %+v", at, x, y)
		}
	}
	heads(t, m, none, none)
	heads(t, of, none, none)
}

func TestP16_1WorkCountsNotHeight(t *testing.T) {
	x := made(t, quick, 50)
	for _, ahead := range []int{0, 1, 2, 3, 4, 5} { // 1 to 6: six slow ones
		grow(t, x, ahead, 20)
	}
	grow(t, x, 0, 1)
	grow(t, x, 7, 1) // 8: the second one of two fast ones, at the first height with harder bits: as much work as 5 has
	grow(t, x, 8, 1) // 9
	works := []uint64{2, 4, 6, 8, 10, 12, 14, 4, 12, 20}
	for at, want := range works {
		if got, _ := x.At(at); got.Work != (api.Num{want}) {
			t.Fatalf("%d: %d, not %d", at, got.Work, want)
		}
	}
	m := mark.New(x)
	heads(t, m, 0, 9)
	does(t, m.Invalidate(9), api.OK)
	heads(t, m, 0, 6)
	does(t, m.Verdict(6, false), api.OK)
	heads(t, m, 0, 5)
	does(t, m.Invalidate(5), api.OK)
	heads(t, m, 0, 8)
	right(t, m, 7, 8, 9)
	heads(t, m, 8, 8)
	right(t, m, 1, 2, 3, 4, 5)
	heads(t, m, 8, 8)
	does(t, m.Reconsider(5), api.OK) // and of 6, behind it
	heads(t, m, 5, 6)
	does(t, m.Reconsider(7), api.OK)
	heads(t, m, 9, 9)
}

func TestP16_1TheTreeGrows(t *testing.T) {
	x := made(t, usual, 50)
	m, want := mark.New(x), newModel(x)
	does(t, m.Verdict(1, true), api.ErrNone)
	does(t, m.Invalidate(1), api.ErrNone)
	grow(t, x, 0, 11)
	same(t, m, want)
	says(t, m, 1, mark.Unknown, false) // what was refused doesn't hold later
	heads(t, m, 0, 1)
	right(t, m, 1)
	heads(t, m, 1, 1)
	grow(t, x, 1, 11)
	heads(t, m, 1, 2)
	does(t, m.Invalidate(1), api.OK)
	grow(t, x, 2, 11)
	grow(t, x, 1, 11)
	grow(t, x, 0, 11)
	failed(t, m, 6, 1, 2, 3, 4)
	child(t, m, 6, 2, 3, 4)
	valid(t, m, 6, 0)
	heads(t, m, 0, 5)
	does(t, m.Verdict(3, false), api.OK)
	grow(t, x, 3, 11) // 6
	does(t, m.Reconsider(4), api.OK)
	failed(t, m, 7, 3, 6)
	heads(t, m, 1, 2)
	does(t, m.Invalidate(6), api.OK)
	does(t, m.Reconsider(1), api.OK)
	failed(t, m, 7)
	heads(t, m, 1, 6)
	does(t, m.Invalidate(2), api.OK)
	grow(t, x, 6, 11) // 7
	does(t, m.Verdict(7, false), api.OK)
	does(t, m.Reconsider(2), api.OK) // also of one that came behind it later
	failed(t, m, 8)
	heads(t, m, 1, 7)
}

// anyPlace: a place of a tree, mostly.
func anyPlace(r *rand.Rand, count int) int {
	switch r.Intn(16) {
	case 0:
		return noPlaces[r.Intn(len(noPlaces))]
	case 1:
		return count + r.Intn(3)
	}
	return r.Intn(count)
}

// deed: one at random, to marks and to their model, which must answer alike.
func deed(t testing.TB, r *rand.Rand, m *mark.Marks, want *model) {
	t.Helper()
	at := anyPlace(r, want.tree.Len())
	switch r.Intn(12) {
	case 0, 1, 2, 3, 4, 5:
		does(t, m.Verdict(at, true), want.verdict(at, true))
	case 6, 7:
		does(t, m.Verdict(at, false), want.verdict(at, false))
	case 8, 9:
		does(t, m.Invalidate(at), want.invalidate(at))
	default:
		does(t, m.Reconsider(at), want.reconsider(at))
	}
}

// growAny: a header more behind any place of a tree, unless there is no room, or its bits are hard by now.
func growAny(t testing.TB, r *rand.Rand, x *skip.Tree) {
	t.Helper()
	ahead := r.Intn(x.Len())
	if r.Intn(2) == 0 {
		ahead = x.Len() - 1 - r.Intn(min(x.Len(), 3))
	}
	spot, _ := x.Spot(ahead)
	if x.Len() < x.Room() && spot.Bits>>24 > 0x1e {
		grow(t, x, ahead, 1+r.Intn(40))
	}
}

func TestP16_1AnyOrder(t *testing.T) {
	for seed := range int64(24) {
		r := rand.New(rand.NewSource(160 + seed))
		p := usual
		if seed%2 == 0 {
			p = quick
		}
		x := made(t, p, 30)
		m, want := mark.New(x), newModel(x)
		other, wanted := mark.New(x), newModel(x) // of the same tree, but they know nothing of one another
		for range 500 {
			if r.Intn(10) == 0 {
				growAny(t, r, x)
			}
			deed(t, r, m, want)
			same(t, m, want)
			if r.Intn(3) == 0 {
				deed(t, r, other, wanted)
				same(t, other, wanted)
			}
		}
	}
}

func TestP16_1ALargeTree(t *testing.T) {
	r := rand.New(rand.NewSource(16))
	x := made(t, usual, api.MaxStored)
	for n := 1; n < api.MaxStored; n++ { // a long line, with branches
		ahead := n - 1
		if r.Intn(20) == 0 {
			ahead = r.Intn(n)
		}
		grow(t, x, ahead, 11)
	}
	m, want := mark.New(x), newModel(x)
	for _, at := range r.Perm(api.MaxStored)[:480] {
		does(t, m.Verdict(at, true), want.verdict(at, true))
	}
	same(t, m, want)
	for range 40 {
		deed(t, r, m, want)
		same(t, m, want)
	}
	for at := 1; at < api.MaxStored; at++ {
		does(t, m.Reconsider(at), want.reconsider(at))
		does(t, m.Verdict(at, true), want.verdict(at, true))
	}
	same(t, m, want)
	if best := m.Best(); best != m.Lead() || best == 0 {
		t.Errorf("%d, %d", best, m.Lead())
	}
}

func TestP16_1TheTreeStaysAsItIs(t *testing.T) {
	x := byHand(t)
	var before []arena.Entry
	for at := range x.Len() {
		entry, _ := x.At(at)
		before = append(before, entry)
	}
	m := mark.New(x)
	does(t, m.Verdict(1, false), api.OK)
	does(t, m.Invalidate(5), api.OK)
	does(t, m.Reconsider(7), api.OK)
	m.Best()
	m.Lead()
	for at, want := range before {
		if got, _ := x.At(at); got != want {
			t.Errorf("at %d: %+v", at, got)
		}
	}
	if x.Len() != 9 || x.Room() != 50 || !reflect.DeepEqual(x.Rules(), usual) {
		t.Errorf("%d stored", x.Len())
	}
}

func TestP16_1TwoMarksKnowNothingOfOneAnother(t *testing.T) {
	x := byHand(t)
	m, other, far := mark.New(x), mark.New(x), mark.New(byHand(t))
	right(t, m, 1, 2)
	does(t, other.Invalidate(1), api.OK)
	does(t, other.Verdict(2, false), api.OK)
	heads(t, m, 2, 4)
	heads(t, other, 0, 8)
	heads(t, far, 0, 4)
	does(t, m.Reconsider(2), api.OK)
	failed(t, other, 10, 1, 2, 3, 4, 5, 6, 7)
	heads(t, far, 0, 4)
}

// itself: whether a block itself failed, or one ahead of it, or one behind it.
func (m *model) itself(at int) bool {
	all := ways(m.tree)
	for place, way := range all {
		if failed := in(m.wrong, place) || in(m.out, place); failed && (slices.Contains(way, at) || slices.Contains(all[at], place)) {
			return true
		}
	}
	return false
}

func TestP16_2RuledOutAndReconsideredByHand(t *testing.T) {
	for at := 1; at <= 8; at++ {
		m := mark.New(byHand(t))
		right(t, m, 1, 2, 5, 8)
		does(t, m.Verdict(7, true), api.OK)
		before := look(m, 9)
		does(t, m.Invalidate(at), api.OK)
		if reflect.DeepEqual(look(m, 9), before) {
			t.Errorf("%d isn't ruled out", at)
		}
		does(t, m.Reconsider(at), api.OK)
		if got := look(m, 9); !reflect.DeepEqual(got, before) {
			t.Errorf("%d: %+v, not %+v", at, got, before)
		}
	}
}

func TestP16_2WhatFailedOnOtherBranchesStays(t *testing.T) {
	m := mark.New(byHand(t))
	right(t, m, 1, 2, 3)
	does(t, m.Verdict(5, false), api.OK)
	does(t, m.Invalidate(6), api.OK)
	does(t, m.Invalidate(8), api.OK)
	before := look(m, 9)
	for _, at := range []int{3, 4} {
		does(t, m.Invalidate(at), api.OK)
		heads(t, m, at-1, at-1) // the one ahead of it, as all other branches failed
		does(t, m.Reconsider(at), api.OK)
		if got := look(m, 9); !reflect.DeepEqual(got, before) {
			t.Errorf("%d: %+v, not %+v", at, got, before)
		}
	}
}

func TestP16_2AnyMarks(t *testing.T) {
	held := 0
	for seed := range int64(12) {
		r := rand.New(rand.NewSource(1600 + seed))
		p := usual
		if seed%2 == 0 {
			p = quick
		}
		x := made(t, p, 25)
		m, want := mark.New(x), newModel(x)
		for range 150 {
			if r.Intn(5) == 0 {
				growAny(t, r, x)
			}
			deed(t, r, m, want)
			for at := 1; at < x.Len(); at++ {
				if want.itself(at) {
					continue
				}
				held++
				before := look(m, x.Len())
				does(t, m.Invalidate(at), api.OK)
				if said, out := m.Said(at); said != before.blocks[at].said || !out || !m.Failed(at) {
					t.Fatalf("%d isn't ruled out", at)
				}
				does(t, m.Reconsider(at), api.OK)
				if got := look(m, x.Len()); !reflect.DeepEqual(got, before) {
					t.Fatalf("%d: %+v, not %+v", at, got, before)
				}
			}
		}
	}
	if held < 1000 {
		t.Errorf("just %d", held)
	}
}
