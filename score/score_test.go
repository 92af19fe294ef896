package score_test

import (
	"cmp"
	"maps"
	"math"
	"math/rand"
	"runtime"
	"slices"
	"testing"

	"trailhead/score"
)

// faults are all that have points.
var faults = []score.Fault{score.BadBytes, score.BadHeader, score.BadOrder, score.Loose, score.BadPledge, score.TooMany, score.Unsolicited}

// noFaults are numbers that are no fault's.
var noFaults = []score.Fault{math.MinInt, math.MinInt + 1, -1 << 32, -256, -7, -2, -1, 0, 8, 9, 10, 100, 255, 256, 257, 263, 1 << 32, 1<<32 + 1, 1<<32 + 7, math.MaxInt - 1, math.MaxInt}

// peers are numbers about what an int holds, and about nought.
var peers = []int{math.MinInt, math.MinInt + 1, -1 << 32, -17, -16, -2, -1, 0, 1, 2, 15, 16, 17, 100, 1 << 32, 1<<32 + 1, math.MaxInt - 1, math.MaxInt}

// worth: a fault's points, by the chapter.
func worth(f score.Fault) int {
	if f < 1 || f > 7 {
		return 0
	}
	return []int{100, 100, 100, 20, 100, 50, 10}[f-1]
}

// times: one fault, so many times.
func times(f score.Fault, count int) []score.Fault {
	return slices.Repeat([]score.Fault{f}, count)
}

// deed is one thing that was done to a board: a peer was blamed, or its points were forgotten.
type deed struct {
	peer   int
	forget bool
	faults []score.Fault
}

// record is all that was done to a board, in order: what it answers is reckoned from this alone, each time anew.
type record []deed

// sums: the peers' points behind all deeds, and at which deed each came to stand last in the row, if it did.
func (r record) sums() (sums, last map[int]int) {
	sums, last = map[int]int{}, map[int]int{}
	for i, d := range r {
		if d.forget {
			sums[d.peer] = 0
		}
		for _, f := range d.faults {
			sums[d.peer] += worth(f)
		}
		if sums[d.peer] >= 100 {
			sums[d.peer], last[d.peer] = 0, i
		}
	}
	return sums, last
}

// row: the sixteen that came to stand last in it the latest, each of them by its last time.
func (r record) row() []int {
	_, last := r.sums()
	out := slices.SortedFunc(maps.Keys(last), func(one, other int) int { return cmp.Compare(last[one], last[other]) })
	return out[max(len(out)-16, 0):]
}

// is: a board's row must be just this one; of others than those in it none may be unwelcome.
func is(t testing.TB, b *score.Board, others []int, want ...int) {
	t.Helper()
	if got := b.Shunned(); !slices.Equal(got, want) {
		t.Fatalf("%d, not %d", got, want)
	}
	for _, peer := range slices.Concat(want, others) {
		if got := b.Shuns(peer); got != slices.Contains(want, peer) {
			t.Fatalf("%d: %t, in %d", peer, got, want)
		}
	}
}

// sum: a peer must have so many points.
func sum(t testing.TB, b *score.Board, peer, want int) {
	t.Helper()
	if got := b.Sum(peer); got != want {
		t.Fatalf("%d: %d, not %d", peer, got, want)
	}
}

// full: a board whose row is the sixteen peers from 1 on.
func full(t testing.TB) (*score.Board, []int) {
	t.Helper()
	b := score.New()
	var row []int
	for peer := 1; peer <= 16; peer++ {
		if !b.Blame(peer, score.BadHeader) {
			t.Fatalf("%d is welcome", peer)
		}
		row = append(row, peer)
		is(t, b, peers, row...)
	}
	return b, row
}

func TestP20_1Constants(t *testing.T) {
	if score.Limit != 100 || score.MaxShunned != 16 {
		t.Errorf("%d, %d", score.Limit, score.MaxShunned)
	}
	if !slices.Equal(faults, []score.Fault{1, 2, 3, 4, 5, 6, 7}) {
		t.Errorf("%d", faults)
	}
}

func TestP20_1PointsByHand(t *testing.T) {
	for _, c := range []struct {
		faults []score.Fault
		want   int
	}{
		{nil, 0}, {[]score.Fault{}, 0}, {[]score.Fault{1}, 100}, {[]score.Fault{2}, 100}, {[]score.Fault{3}, 100}, {[]score.Fault{4}, 20}, {[]score.Fault{5}, 100}, {[]score.Fault{6}, 50}, {[]score.Fault{7}, 10},
		{faults, 480}, {[]score.Fault{1, 2, 3, 5}, 400}, {[]score.Fault{4, 6, 7}, 80}, {[]score.Fault{7, 7, 7}, 30}, {times(4, 5), 100}, {times(6, 2), 100}, {times(7, 9), 90},
		{noFaults, 0}, {slices.Concat(noFaults, faults, noFaults), 480}, {[]score.Fault{0, 4, -1, 7, 8}, 30},
		{times(1, 1000), 100000}, {times(1, 1001), 100100}, {append(times(1, 1000), 7), 100010}, {times(7, 100000), 1000000}, // the most that a peer may have is none of Points
	} {
		if got := score.Points(c.faults...); got != c.want {
			t.Errorf("%d: %d, not %d", c.faults[:min(len(c.faults), 40)], got, c.want)
		}
	}
}

func TestP20_1PointsOfEachNumber(t *testing.T) {
	for f := score.Fault(-300); f <= 300; f++ {
		if got := score.Points(f); got != worth(f) {
			t.Errorf("%d: %d, not %d", f, got, worth(f))
		}
		for _, g := range faults {
			if got := score.Points(f, g, f); got != 2*worth(f)+worth(g) {
				t.Errorf("%d, %d, %d: %d", f, g, f, got)
			}
		}
	}
	for _, f := range noFaults {
		if got := score.Points(f); got != 0 {
			t.Errorf("%d: %d", f, got)
		}
	}
}

func TestP20_1NewIsEmpty(t *testing.T) {
	b := score.New()
	if b == nil {
		t.Fatal("no board")
	}
	is(t, b, peers)
	for _, peer := range peers {
		sum(t, b, peer, 0)
		b.Forget(peer)
		if b.Blame(peer) || b.Blame(peer, noFaults...) {
			t.Errorf("%d isn't welcome", peer)
		}
		sum(t, b, peer, 0)
	}
	is(t, b, peers)
}

// Each line is told to a peer of a new board, message by message; the points behind each of them, and in which of them it isn't welcome.
func TestP20_1BlameByHand(t *testing.T) {
	for _, c := range []struct {
		told [][]score.Fault
		sums []int
		last []bool
	}{
		{[][]score.Fault{{1}}, []int{0}, []bool{true}},
		{[][]score.Fault{{2}}, []int{0}, []bool{true}},
		{[][]score.Fault{{3}}, []int{0}, []bool{true}},
		{[][]score.Fault{{5}}, []int{0}, []bool{true}},
		{[][]score.Fault{{4}, {4}, {4}, {4}, {4}}, []int{20, 40, 60, 80, 0}, []bool{false, false, false, false, true}},
		{[][]score.Fault{{6}, {6}}, []int{50, 0}, []bool{false, true}},
		{[][]score.Fault{{6}, {4}, {4}, {7}}, []int{50, 70, 90, 0}, []bool{false, false, false, true}}, // 100 itself is the edge
		{[][]score.Fault{{6}, {4}, {4}, {4}}, []int{50, 70, 90, 0}, []bool{false, false, false, true}},
		{[][]score.Fault{times(7, 9), {7}}, []int{90, 0}, []bool{false, true}},
		{[][]score.Fault{times(7, 9), {0}, {}, {8, -1}, {7}}, []int{90, 90, 90, 90, 0}, []bool{false, false, false, false, true}},
		{[][]score.Fault{{4, 4, 4, 4}, {7}, {1}}, []int{80, 90, 0}, []bool{false, false, true}},
		{[][]score.Fault{{4, 4, 4, 4, 4}}, []int{0}, []bool{true}},
		{[][]score.Fault{{6, 4, 7}, {4}}, []int{80, 0}, []bool{false, true}},
		{[][]score.Fault{{1, 4}}, []int{0}, []bool{true}}, // together: what is beyond the limit is forgotten too
		{[][]score.Fault{{6, 6, 7}, {7}}, []int{0, 10}, []bool{true, true}},
		{[][]score.Fault{{4, 1}, {4}}, []int{0, 20}, []bool{true, true}},
		{[][]score.Fault{faults, {}}, []int{0, 0}, []bool{true, true}},
		{[][]score.Fault{{1}, {4}, {4}, {6}, {7}, {7}}, []int{0, 20, 40, 90, 0, 10}, []bool{true, true, true, true, true, true}}, // it has points anew, and stays in the row
		{[][]score.Fault{{1}, {1}, {1}, {7}}, []int{0, 0, 0, 10}, []bool{true, true, true, true}},
		{[][]score.Fault{times(1, 1000), {7}}, []int{0, 10}, []bool{true, true}},
		{[][]score.Fault{times(1, 1001), {7}}, []int{0, 10}, []bool{true, true}},
		{[][]score.Fault{{4}, times(7, 100000), {4}}, []int{20, 0, 20}, []bool{false, true, true}},
		{[][]score.Fault{noFaults, {7}, noFaults}, []int{0, 10, 10}, []bool{false, false, false}},
		{[][]score.Fault{{}, {1}, {}, {0}}, []int{0, 0, 0, 0}, []bool{false, true, true, true}},
	} {
		for _, peer := range peers {
			b := score.New()
			for i, told := range c.told {
				if got := b.Blame(peer, told...); got != c.last[i] {
					t.Fatalf("%d, the one at %d: %t", peer, i, got)
				}
				sum(t, b, peer, c.sums[i])
				if c.last[i] {
					is(t, b, peers, peer)
				} else {
					is(t, b, peers)
				}
			}
		}
	}
}

func TestP20_1RowByHand(t *testing.T) {
	for _, c := range []struct {
		then []int
		want []int
	}{
		{nil, []int{1, 2, 3, 4, 5, 6, 7, 8, 9, 10, 11, 12, 13, 14, 15, 16}},
		{[]int{17}, []int{2, 3, 4, 5, 6, 7, 8, 9, 10, 11, 12, 13, 14, 15, 16, 17}},
		{[]int{17, 18, 19}, []int{4, 5, 6, 7, 8, 9, 10, 11, 12, 13, 14, 15, 16, 17, 18, 19}},
		{[]int{1}, []int{2, 3, 4, 5, 6, 7, 8, 9, 10, 11, 12, 13, 14, 15, 16, 1}}, // who stands there already makes nobody go
		{[]int{16}, []int{1, 2, 3, 4, 5, 6, 7, 8, 9, 10, 11, 12, 13, 14, 15, 16}},
		{[]int{8}, []int{1, 2, 3, 4, 5, 6, 7, 9, 10, 11, 12, 13, 14, 15, 16, 8}},
		{[]int{8, 8, 8}, []int{1, 2, 3, 4, 5, 6, 7, 9, 10, 11, 12, 13, 14, 15, 16, 8}},
		{[]int{1, 17}, []int{3, 4, 5, 6, 7, 8, 9, 10, 11, 12, 13, 14, 15, 16, 1, 17}},
		{[]int{17, 1}, []int{3, 4, 5, 6, 7, 8, 9, 10, 11, 12, 13, 14, 15, 16, 17, 1}}, // who went comes in anew
		{[]int{0, -1, 0, math.MaxInt, math.MinInt}, []int{5, 6, 7, 8, 9, 10, 11, 12, 13, 14, 15, 16, -1, 0, math.MaxInt, math.MinInt}},
		{[]int{21, 22, 23, 24, 25, 26, 27, 28, 29, 30, 31, 32, 33, 34, 35, 36}, []int{21, 22, 23, 24, 25, 26, 27, 28, 29, 30, 31, 32, 33, 34, 35, 36}},
	} {
		for _, f := range faults {
			b, row := full(t)
			for _, peer := range c.then {
				for range 99/worth(f) + 1 {
					b.Blame(peer, f)
				}
				if !b.Shuns(peer) {
					t.Fatalf("%d: %d is welcome", c.then, peer)
				}
				sum(t, b, peer, 0)
			}
			is(t, b, slices.Concat(row, c.then, peers), c.want...)
		}
	}
}

func TestP20_1RowGrowsToSixteen(t *testing.T) {
	b := score.New()
	var row []int
	for peer := range 100 {
		if b.Blame(peer, score.TooMany, score.Loose) {
			t.Fatalf("%d isn't welcome", peer)
		}
	}
	is(t, b, nil)
	for peer := range 100 {
		sum(t, b, peer, 70)
		if !b.Blame(peer, score.Unsolicited, score.Loose) {
			t.Fatalf("%d is welcome", peer)
		}
		row = append(row, peer)
		is(t, b, row, row[max(len(row)-16, 0):]...)
	}
}

// Who is in the row stays where it stands while it has less than 100 points anew, and has them still when it went from there.
func TestP20_1BlamedInTheRow(t *testing.T) {
	b, row := full(t)
	for i, f := range []score.Fault{score.TooMany, score.Loose, score.Loose} {
		if !b.Blame(3, f) {
			t.Fatal("3 is welcome")
		}
		sum(t, b, 3, 50+20*i)
		is(t, b, peers, row...)
	}
	for peer := 17; peer <= 19; peer++ {
		b.Blame(peer, score.BadOrder)
	}
	is(t, b, row[:3], 4, 5, 6, 7, 8, 9, 10, 11, 12, 13, 14, 15, 16, 17, 18, 19)
	sum(t, b, 3, 90)
	if b.Blame(3) || b.Blame(3, noFaults...) {
		t.Error("3 isn't welcome")
	}
	if b.Blame(2, score.Unsolicited) || !b.Blame(3, score.Unsolicited) {
		t.Error("3 is welcome")
	}
	sum(t, b, 2, 10)
	sum(t, b, 3, 0)
	is(t, b, row[:4], 5, 6, 7, 8, 9, 10, 11, 12, 13, 14, 15, 16, 17, 18, 19, 3)
}

func TestP20_1WithoutPointsNothingHappens(t *testing.T) {
	b, row := full(t)
	b.Blame(5, score.Loose)
	b.Blame(20, times(score.Unsolicited, 9)...)
	for _, told := range append([][]score.Fault{nil, {}, noFaults}, slices.Collect(slices.Chunk(noFaults, 1))...) {
		for _, peer := range []int{1, 5, 16} {
			if !b.Blame(peer, told...) {
				t.Fatalf("%d, %d: welcome", peer, told)
			}
		}
		for _, peer := range []int{0, -1, 17, 20} {
			if b.Blame(peer, told...) {
				t.Fatalf("%d, %d: not welcome", peer, told)
			}
		}
		is(t, b, peers, row...)
		sum(t, b, 1, 0)
		sum(t, b, 5, 20)
		sum(t, b, 17, 0)
		sum(t, b, 20, 90)
	}
}

func TestP20_1ForgetByHand(t *testing.T) {
	b := score.New()
	b.Blame(1, score.TooMany)
	b.Blame(2, score.Loose)
	b.Forget(1)
	b.Forget(1)
	b.Forget(3)
	sum(t, b, 1, 0)
	sum(t, b, 2, 20)
	if b.Blame(1, score.TooMany) { // they aren't fifty more
		t.Error("1 isn't welcome")
	}
	sum(t, b, 1, 50)
	if !b.Blame(1, score.BadBytes) || !b.Blame(2, score.BadPledge) {
		t.Error("welcome")
	}
	for _, peer := range []int{1, 2, 3} { // the row isn't forgotten
		b.Forget(peer)
		is(t, b, peers, 1, 2)
	}
	b.Blame(1, score.TooMany)
	sum(t, b, 1, 50)
	b.Forget(1)
	if !b.Blame(1, score.TooMany) {
		t.Error("1 is welcome")
	}
	sum(t, b, 1, 50)
	is(t, b, peers, 1, 2)
	if !b.Blame(1, score.TooMany) {
		t.Error("1 is welcome")
	}
	sum(t, b, 1, 0)
	is(t, b, peers, 2, 1)
}

func TestP20_1Nil(t *testing.T) {
	var b *score.Board
	for _, peer := range peers {
		for _, told := range [][]score.Fault{nil, {1}, faults, noFaults, times(1, 2000)} {
			if b.Blame(peer, told...) {
				t.Errorf("%d, %d: not welcome", peer, told)
			}
			b.Forget(peer)
			sum(t, b, peer, 0)
			is(t, b, peers)
		}
	}
}

// anyFaults: some faults, and some numbers that are none, at random.
func anyFaults(r *rand.Rand) []score.Fault {
	small := []score.Fault{score.Loose, score.TooMany, score.Unsolicited}
	out := make([]score.Fault, r.Intn(4))
	for i := range out {
		switch r.Intn(6) {
		case 0:
			out[i] = noFaults[r.Intn(len(noFaults))]
		case 1:
			out[i] = faults[r.Intn(len(faults))]
		default:
			out[i] = small[r.Intn(len(small))]
		}
	}
	return out
}

// anyDeed: of one of so many peers.
func anyDeed(r *rand.Rand, count int) deed {
	d := deed{peer: r.Intn(count) - count/3, forget: r.Intn(8) == 0}
	if !d.forget {
		d.faults = anyFaults(r)
	}
	return d
}

// do: a deed to a board; what it answers must be what the record tells.
func do(t testing.TB, b *score.Board, log record, d deed) record {
	t.Helper()
	log = append(log, d)
	if d.forget {
		b.Forget(d.peer)
		return log
	}
	same := slices.Clone(d.faults)
	if got, want := b.Blame(d.peer, d.faults...), slices.Contains(log.row(), d.peer); got != want || !slices.Equal(d.faults, same) {
		t.Fatalf("%+v: %t", d, got)
	}
	return log
}

func TestP20_1AnyOrder(t *testing.T) {
	for seed := range int64(12) {
		r := rand.New(rand.NewSource(200 + seed))
		count := []int{2, 16, 17, 18, 24, 40}[seed%6]
		b, other := score.New(), score.New()
		var log, far record
		for range 400 {
			log = do(t, b, log, anyDeed(r, count))
			if r.Intn(3) == 0 {
				far = do(t, other, far, anyDeed(r, count))
			}
			is(t, b, peers, log.row()...)
			is(t, other, peers, far.row()...)
			want, _ := log.sums()
			wantFar, _ := far.sums()
			for peer := -count; peer < count; peer++ {
				sum(t, b, peer, want[peer])
				sum(t, other, peer, wantFar[peer])
			}
		}
	}
}

func TestP20_1AskingChangesNothing(t *testing.T) {
	r := rand.New(rand.NewSource(20))
	b, quiet := score.New(), score.New()
	for range 2000 {
		d := anyDeed(r, 30)
		for range r.Intn(4) {
			b.Sum(r.Intn(40))
			b.Shuns(r.Intn(40))
			b.Shunned()
			b.Blame(r.Intn(40))
			score.Points(d.faults...)
		}
		if d.forget {
			b.Forget(d.peer)
			quiet.Forget(d.peer)
		} else if b.Blame(d.peer, d.faults...) != quiet.Blame(d.peer, d.faults...) {
			t.Fatalf("%+v", d)
		}
		is(t, b, peers, quiet.Shunned()...)
		for peer := range 40 {
			sum(t, b, peer, quiet.Sum(peer))
		}
	}
}

func TestP20_1WhatIsHandedInStaysAndIsntKept(t *testing.T) {
	b := score.New()
	told := []score.Fault{7, 4, 0, 7, 1, 1, 1, 1}
	same := slices.Clone(told)
	if b.Blame(1, told[:4]...) || score.Points(told[:4]...) != 40 || !slices.Equal(told, same) {
		t.Errorf("%d", told)
	}
	clear(told)
	sum(t, b, 1, 40)
	copy(told, same)
	if !b.Blame(1, told[:6]...) || !slices.Equal(told, same) {
		t.Errorf("%d", told)
	}
	clear(told)
	is(t, b, peers, 1)
}

func TestP20_1WhatIsToldIsNew(t *testing.T) {
	b, row := full(t)
	for range 3 {
		all := b.Shunned()
		is(t, b, peers, row...)
		all = all[:cap(all)]
		for i := range all {
			all[i] = 100
		}
		is(t, b, peers, row...)
	}
	all := b.Shunned()
	b.Blame(4, score.BadOrder)
	b.Blame(-1, score.BadOrder)
	if !slices.Equal(all, row) {
		t.Errorf("%d", all)
	}
	less := score.New()
	less.Blame(1, score.BadBytes)
	all = less.Shunned()
	all = append(all[:1], 2, 3)
	less.Blame(4, score.BadBytes)
	if !slices.Equal(all, []int{1, 2, 3}) {
		t.Errorf("%d", all)
	}
	is(t, less, peers, 1, 4)
}

// What a peer's points are hangs on what was done to it alone: with all the others' deeds between, and without them, they are the same.
func TestP20_2OthersDontCount(t *testing.T) {
	for seed := range int64(8) {
		r := rand.New(rand.NewSource(220 + seed))
		b := score.New()
		alone := map[int]*score.Board{}
		for range 1500 {
			d := anyDeed(r, 30)
			if alone[d.peer] == nil {
				alone[d.peer] = score.New()
			}
			if d.forget {
				b.Forget(d.peer)
				alone[d.peer].Forget(d.peer)
			} else {
				b.Blame(d.peer, d.faults...)
				alone[d.peer].Blame(d.peer, d.faults...)
			}
			for peer, own := range alone {
				sum(t, b, peer, own.Sum(peer))
				if b.Shuns(peer) && !own.Shuns(peer) {
					t.Fatalf("%d: not welcome, by others", peer)
				}
			}
		}
	}
}

// As long as no more than sixteen are in the row, whether a peer is welcome hangs on what was done to it alone, too.
func TestP20_2OthersDontCountInAShortRow(t *testing.T) {
	for seed := range int64(8) {
		r := rand.New(rand.NewSource(240 + seed))
		b := score.New()
		var alone [16]*score.Board
		for i := range alone {
			alone[i] = score.New()
		}
		for range 600 {
			peer, told := r.Intn(16), anyFaults(r)
			if b.Blame(peer, told...) != alone[peer].Blame(peer, told...) {
				t.Fatalf("%d, %d: not as alone", peer, told)
			}
			for peer, own := range alone {
				sum(t, b, peer, own.Sum(peer))
				if b.Shuns(peer) != own.Shuns(peer) {
					t.Fatalf("%d: %t", peer, b.Shuns(peer))
				}
			}
		}
		if len(b.Shunned()) != 16 {
			t.Errorf("%d", b.Shunned())
		}
	}
}

// A peer goes from the row by sixteen others that come into it behind, and not by fewer, however often these are blamed.
func TestP20_2TheRowsLength(t *testing.T) {
	for others := range 20 {
		b := score.New()
		b.Blame(-1, score.BadHeader)
		for range 3 {
			for peer := range others {
				b.Blame(peer, score.BadHeader)
			}
		}
		if got := b.Shuns(-1); got != (others < 16) {
			t.Errorf("%d others: %t", others, got)
		}
		if got := len(b.Shunned()); got != min(others+1, 16) {
			t.Errorf("%d others: %d", others, got)
		}
	}
}

func TestP20_2WhoIsNeverBlamedIsWelcome(t *testing.T) {
	r := rand.New(rand.NewSource(2))
	b := score.New()
	for range 3000 {
		d := anyDeed(r, 40)
		if d.peer%5 == 0 { // these are blamed for nothing that has points
			d.faults = noFaults[:len(d.faults)]
		}
		if d.forget {
			b.Forget(d.peer)
		} else if b.Blame(d.peer, d.faults...) && d.peer%5 == 0 {
			t.Fatalf("%d isn't welcome", d.peer)
		}
		for peer := -50; peer <= 50; peer++ {
			if (peer%5 == 0 || peer < -20 || peer >= 40) && (b.Shuns(peer) || b.Sum(peer) != 0 || slices.Contains(b.Shunned(), peer)) {
				t.Fatalf("%d isn't welcome, or has %d points", peer, b.Sum(peer))
			}
		}
	}
}

// heap: how many bytes are held.
func heap() int {
	runtime.GC()
	runtime.GC()
	var m runtime.MemStats
	runtime.ReadMemStats(&m)
	return int(m.HeapAlloc)
}

// room: how many bytes a board holds behind many peers that came, were blamed, and went or came into the row.
func room(count int) int {
	before := heap()
	b := score.New()
	for peer := range count {
		b.Blame(peer, score.Unsolicited)
		if peer%2 == 0 {
			b.Forget(peer)
		} else {
			b.Blame(peer, score.BadBytes)
		}
		b.Blame(-peer, noFaults...)
		b.Sum(-peer)
	}
	took := heap() - before
	runtime.KeepAlive(b)
	return took
}

// Of peers that went, or aren't welcome, no points are held, and of a peer without points nothing.
func TestP20_1Room(t *testing.T) {
	const may = 16384
	least := math.MaxInt
	for try := 0; try < 5 && least > may; try++ { // what else goes on holds memory too, now and then
		least = min(least, room(1<<16))
	}
	if least > may {
		t.Errorf("%d bytes, not %d", least, may)
	}
}
