package median_test

import (
	"math"
	"math/big"
	"math/rand"
	"slices"
	"testing"

	"trailhead/median"
)

// most is how many times count.
const most = 11

// edges are numbers about what an int holds, and about nought.
var edges = []int{
	math.MinInt, math.MinInt + 1, math.MinInt + 2, math.MinInt / 2, -1 << 32, -2, -1, 0, 1, 2, 1000, math.MaxInt32, math.MaxUint32, 1 << 32,
	math.MaxInt / 2, math.MaxInt - 2, math.MaxInt - 1, math.MaxInt,
}

// wantOf: the middle one by its rank: as many as half of them, or fewer, are less, and with those that are the same there are more.
func wantOf(times []int) int {
	times = times[:min(len(times), most)]
	for _, mid := range times {
		less, same := 0, 0
		for _, time := range times {
			if time < mid {
				less++
			}
			if time == mid {
				same++
			}
		}
		if less <= len(times)/2 && len(times)/2 < less+same {
			return mid
		}
	}
	return 0
}

// wantTimes: the last of what was pushed, from the end on.
func wantTimes(pushed []int) []int {
	var out []int
	for i := len(pushed) - 1; i >= 0 && len(out) < most; i-- {
		out = append(out, pushed[i])
	}
	return out
}

// wantNear: by a difference without bounds, of which 64 bits are left.
func wantNear(time, now, future int) bool {
	round := new(big.Int).Lsh(big.NewInt(1), 64)
	ahead := new(big.Int).Sub(big.NewInt(int64(time)), big.NewInt(int64(now)))
	if ahead.Cmp(big.NewInt(math.MaxInt64)) > 0 {
		ahead.Sub(ahead, round)
	}
	if ahead.Cmp(big.NewInt(math.MinInt64)) < 0 {
		ahead.Add(ahead, round)
	}
	return future >= 0 && ahead.Cmp(big.NewInt(int64(future))) <= 0
}

// someTimes: so many times, the same ones at each run: far apart, close together, or of the edges.
func someTimes(r *rand.Rand, size int) []int {
	out := make([]int, size)
	way := r.Intn(3)
	for i := range out {
		switch way {
		case 0:
			out[i] = int(r.Uint64())
		case 1:
			out[i] = r.Intn(5) - 2
		default:
			out[i] = edges[r.Intn(len(edges))]
		}
	}
	return out
}

// windowOf: a window that was pushed these, all at once.
func windowOf(times ...int) *median.Window {
	w := &median.Window{}
	w.Push(times...)
	return w
}

// orders: calls do for each order of a list.
func orders(list []int, do func([]int)) {
	var put func(n int)
	put = func(n int) {
		if n == len(list) {
			do(list)
			return
		}
		for i := n; i < len(list); i++ {
			list[n], list[i] = list[i], list[n]
			put(n + 1)
			list[n], list[i] = list[i], list[n]
		}
	}
	put(0)
}

// holds: that a window has the last of what was pushed, and their middle.
func holds(t *testing.T, what string, w *median.Window, pushed []int) {
	t.Helper()
	want := wantTimes(pushed)
	if got := w.Times(); !slices.Equal(got, want) {
		t.Errorf("%s: times %v, not %v", what, got, want)
	}
	if got := w.Mid(); got != wantOf(want) {
		t.Errorf("%s: middle of %v: %d, not %d", what, want, got, wantOf(want))
	}
}

func TestP9_1OfByHand(t *testing.T) {
	for _, c := range []struct {
		times []int
		want  int
	}{
		{nil, 0},
		{[]int{}, 0},
		{[]int{7}, 7},
		{[]int{-7}, -7},
		{[]int{3, 7}, 7}, // behind as many as half of them
		{[]int{7, 3}, 7},
		{[]int{5, 1, 3}, 3},
		{[]int{-1, -2, -3, -4}, -2},
		{[]int{5, 5, 1}, 5},
		{[]int{1, 5, 5, 1}, 5},
		{[]int{math.MaxInt, math.MinInt}, math.MaxInt},
		{[]int{math.MaxInt, math.MinInt, 0}, 0},
		{[]int{math.MinInt, math.MinInt, math.MaxInt}, math.MinInt},
		{[]int{1, 2, 3, 4, 5, 6, 7, 8, 9, 10}, 6},
		{[]int{1, 2, 3, 4, 5, 6, 7, 8, 9, 10, 11}, 6},
		{[]int{11, 10, 9, 8, 7, 6, 5, 4, 3, 2, 1}, 6},
		{[]int{11, 10, 9, 8, 7, 6, 5, 4, 3, 2, 1, 1000}, 6},                  // the twelfth one doesn't count
		{[]int{11, 10, 9, 8, 7, 6, 5, 4, 3, 2, 1, -1000, -1000, -1000}, 6},   // nor those behind it
		{[]int{1000, 11, 10, 9, 8, 7, 6, 5, 4, 3, 2, 1}, 7},                  // the first one does
		{[]int{1000, 1000, 1000, 1000, 1000, 0, 0, 0, 0, 0, 0, 1000}, 0},     // the eleventh one tells
		{[]int{1000, 1000, 1000, 1000, 1000, 0, 0, 0, 0, 0, 1000, 0}, 1000},  // either way
		{[]int{0, 0, 0, 0, 0, 0, 0, 0, 0, 0, 0, 5, 5, 5, 5, 5, 5, 5, 5}, 0},  // of more than twice as many the first ones
		{[]int{5, 5, 5, 5, 5, 5, 0, 0, 0, 0, 0, 0, 0, 0, 0, 0, 0, 0, 0}, 5},  // too
		{[]int{1231006505, 1231469665, 1231469744, 1231470173}, 1231469744},  // times of blocks
		{[]int{1231470173, 1231469744, 1231469665, 1231006505}, 1231469744},  // in either order
		{[]int{math.MaxUint32, 1 << 32, math.MaxUint32 - 1}, math.MaxUint32}, // above 32 bits they are numbers all the same
	} {
		if got := median.Of(c.times...); got != c.want {
			t.Errorf("%v: %d, not %d", c.times, got, c.want)
		}
	}
}

func TestP9_1OfEachLength(t *testing.T) {
	r := rand.New(rand.NewSource(1))
	for size := range 40 {
		for range 100 {
			times := someTimes(r, size)
			if got, want := median.Of(times...), wantOf(times); got != want {
				t.Errorf("%v: %d, not %d", times, got, want)
			}
		}
	}
	many := append([]int{3, 1, 2, 3, 1, 2, 3, 1, 2, 2, 2}, make([]int, 1<<16)...)
	if got := median.Of(many...); got != 2 {
		t.Errorf("of very many: %d", got)
	}
}

func TestP9_1OfLeavesTheTimesAsTheyAre(t *testing.T) {
	for size := range 15 {
		room := []int{9, 8, 7, 6, 5, 4, 3, 2, 1, 0, -1, -2, -3, -4, -5, -6, -7}
		kept := slices.Clone(room)
		median.Of(room[:size]...)
		median.Late(1, room[:size]...)
		w := windowOf(room[:size]...)
		w.Push(room[:size]...)
		w.Mid()
		if !slices.Equal(room, kept) {
			t.Errorf("of %d: %v", size, room)
		}
	}
}

func TestP9_1AnEmptyWindow(t *testing.T) {
	w := &median.Window{}
	for _, pushed := range [][]int{nil, {}} {
		w.Push(pushed...)
		if got := w.Times(); len(got) != 0 || w.Mid() != 0 {
			t.Errorf("%v, %d", got, w.Mid())
		}
	}
	w.Push(0)
	if got := w.Times(); !slices.Equal(got, []int{0}) || w.Mid() != 0 {
		t.Errorf("with nought: %v, %d", got, w.Mid())
	}
}

func TestP9_1ANilWindow(t *testing.T) {
	var w *median.Window
	for _, pushed := range [][]int{nil, {5}, {5, 6, 7}, make([]int, 100)} {
		w.Push(pushed...)
		if got := w.Times(); len(got) != 0 || w.Mid() != 0 {
			t.Errorf("%v, %d", got, w.Mid())
		}
	}
}

func TestP9_1WindowByHand(t *testing.T) {
	w := &median.Window{}
	for _, c := range []struct {
		push []int
		want []int
		mid  int
	}{
		{[]int{5}, []int{5}, 5},
		{[]int{9, 1}, []int{1, 9, 5}, 5},
		{nil, []int{1, 9, 5}, 5},
		{[]int{7}, []int{7, 1, 9, 5}, 7},
		{[]int{7, 7}, []int{7, 7, 7, 1, 9, 5}, 7}, // each time for itself, were it there already
		{[]int{10, 20, 30, 40}, []int{40, 30, 20, 10, 7, 7, 7, 1, 9, 5}, 9},
		{[]int{0}, []int{0, 40, 30, 20, 10, 7, 7, 7, 1, 9, 5}, 7}, // eleven
		{[]int{-3}, []int{-3, 0, 40, 30, 20, 10, 7, 7, 7, 1, 9}, 7},
		{[]int{1, 2, 3, 4, 5, 6, 7, 8, 9, 10}, []int{10, 9, 8, 7, 6, 5, 4, 3, 2, 1, -3}, 5},
		{[]int{1, 2, 3, 4, 5, 6, 7, 8, 9, 10, 11}, []int{11, 10, 9, 8, 7, 6, 5, 4, 3, 2, 1}, 6},
		{[]int{99, 1, 2, 3, 4, 5, 6, 7, 8, 9, 10, 12}, []int{12, 10, 9, 8, 7, 6, 5, 4, 3, 2, 1}, 6},
		{[]int{math.MinInt, math.MaxInt}, []int{math.MaxInt, math.MinInt, 12, 10, 9, 8, 7, 6, 5, 4, 3}, 7},
	} {
		w.Push(c.push...)
		if got := w.Times(); !slices.Equal(got, c.want) || w.Mid() != c.mid {
			t.Errorf("behind %v: %v, %d, not %v, %d", c.push, got, w.Mid(), c.want, c.mid)
		}
	}
}

func TestP9_1WindowByPieces(t *testing.T) {
	r := rand.New(rand.NewSource(2))
	for range 300 {
		w := &median.Window{}
		var pushed []int
		for range r.Intn(12) {
			piece := someTimes(r, r.Intn(26))
			w.Push(piece...)
			pushed = append(pushed, piece...)
			holds(t, "by pieces", w, pushed)
		}
		holds(t, "at once", windowOf(pushed...), pushed)
		single := &median.Window{}
		for _, time := range pushed {
			single.Push(time)
		}
		holds(t, "one by one", single, pushed)
	}
}

func TestP9_1AWindowSharesNothing(t *testing.T) {
	pushed := []int{1, 2, 3, 4, 5}
	w := windowOf(pushed...)
	pushed[4] = 50
	holds(t, "what was pushed is written into", w, []int{1, 2, 3, 4, 5})
	told := w.Times()
	for i := range told {
		told[i] = 70
	}
	_ = append(told, 71)
	holds(t, "what it told is written into", w, []int{1, 2, 3, 4, 5})
	told = w.Times()
	w.Push(6)
	if !slices.Equal(told, []int{5, 4, 3, 2, 1}) {
		t.Errorf("what it told isn't what it was: %v", told)
	}
	holds(t, "another one is pushed", w, []int{1, 2, 3, 4, 5, 6})
	holds(t, "another window", windowOf(8), []int{8})
	holds(t, "behind another window", w, []int{1, 2, 3, 4, 5, 6})
	w.Push(w.Times()...)
	holds(t, "its own are pushed", w, []int{1, 2, 3, 4, 5, 6, 6, 5, 4, 3, 2, 1})
}

func TestP9_1LateByHand(t *testing.T) {
	for _, c := range []struct {
		time  int
		times []int
		want  bool
	}{
		{0, nil, true},
		{-1, nil, true},
		{math.MinInt, []int{}, true},
		{math.MaxInt, nil, true},
		{5, []int{5}, false},
		{6, []int{5}, true},
		{4, []int{5}, false},
		{0, []int{0}, false},
		{1, []int{0}, true},
		{0, []int{-1}, true},
		{5, []int{3, 5}, false},
		{4, []int{3, 5}, false},
		{6, []int{3, 5}, true},
		{3, []int{5, 1, 3}, false},
		{4, []int{5, 1, 3}, true}, // though it is below the newest one
		{math.MaxInt, []int{math.MaxInt}, false},
		{math.MaxInt, []int{math.MaxInt - 1}, true},
		{math.MinInt, []int{math.MinInt}, false},
		{math.MaxInt, []int{math.MinInt}, true}, // held against each other, not by a difference
		{math.MinInt, []int{math.MaxInt}, false},
		{6, []int{11, 10, 9, 8, 7, 6, 5, 4, 3, 2, 1, 1000, 1000}, false},
		{7, []int{11, 10, 9, 8, 7, 6, 5, 4, 3, 2, 1, 1000, 1000}, true}, // those behind the eleventh don't count
		{6, []int{11, 10, 9, 8, 7, 6, 5, 4, 3, 2, 1, -1000, -1000}, false},
	} {
		if got := median.Late(c.time, c.times...); got != c.want {
			t.Errorf("%d by %v: %v", c.time, c.times, got)
		}
	}
}

func TestP9_1LateEachLength(t *testing.T) {
	r := rand.New(rand.NewSource(3))
	for size := 1; size < 25; size++ {
		for range 50 {
			times := someTimes(r, size)
			mid := wantOf(times)
			for _, time := range append([]int{mid - 1, mid, mid + 1}, edges...) {
				if got := median.Late(time, times...); got != (time > mid) {
					t.Errorf("%d by %v: %v", time, times, got)
				}
			}
		}
	}
}

func TestP9_1NearByHand(t *testing.T) {
	for _, c := range []struct {
		time, now, future int
		want              bool
	}{
		{0, 0, 0, true},
		{1, 0, 0, false},
		{-1, 0, 0, true},
		{10, 5, 5, true},
		{11, 5, 5, false},
		{9, 5, 5, true},
		{1, 5, 0, true},
		{1, 5, -1, false}, // though it is below the clock
		{1, 5, math.MinInt, false},
		{5, 5, -1, false},
		{math.MinInt, math.MaxInt, -1, false},
		{-5, -10, 5, true},
		{-4, -10, 5, false},
		{math.MaxInt, 0, math.MaxInt, true},
		{math.MaxInt, 0, math.MaxInt - 1, false},
		{math.MaxInt, 1, math.MaxInt - 1, true},
		{math.MaxInt, math.MaxInt, 0, true},
		{math.MinInt, math.MinInt, 0, true},
		{7, math.MaxInt, 0, true},
		{-1, math.MaxInt, 0, true},
		{-2, math.MaxInt, 0, false}, // 64 bits tell that it is far above
		{-2, math.MaxInt, math.MaxInt, true},
		{math.MinInt, 0, 0, true},
		{math.MinInt, 1, math.MaxInt - 1, false},
		{math.MinInt, math.MaxInt, 0, false}, // by 1
		{math.MinInt, math.MaxInt, 1, true},
		{math.MaxInt, -1, 0, true}, // that it is far below
		{math.MaxInt, math.MinInt, 0, true},
		{math.MaxInt, -1, -1, false},
		{1 << 32, 0, 1 << 32, true},
		{1<<32 + 1, 0, 1 << 32, false},
	} {
		if got := median.Near(c.time, c.now, c.future); got != c.want {
			t.Errorf("%d by %d and %d: %v", c.time, c.now, c.future, got)
		}
	}
}

func TestP9_1NearAtAllEdges(t *testing.T) {
	for _, now := range edges {
		for _, future := range edges {
			for _, time := range append([]int{now + future - 1, now + future, now + future + 1, now - 1, now, now + 1}, edges...) {
				if got, want := median.Near(time, now, future), wantNear(time, now, future); got != want {
					t.Errorf("%d by %d and %d: %v", time, now, future, got)
				}
			}
		}
	}
}

func TestP9_2EachOrderOfFew(t *testing.T) {
	for _, list := range [][]int{{1, 2}, {3, 1, 2}, {1, 1, 2}, {4, 1, 3, 2}, {2, 2, 1, 1}, {5, 3, 1, 2, 4}, {math.MinInt, -1, 0, math.MaxInt, 1}, {6, 5, 4, 3, 2, 1}, {7, 1, 6, 2, 5, 3, 4}, {1, 1, 1, 2, 2, 3, 3}} {
		want := wantOf(list)
		orders(slices.Clone(list), func(times []int) {
			if got := median.Of(times...); got != want {
				t.Errorf("%v: %d, not %d", times, got, want)
			}
			if got := windowOf(times...).Mid(); got != want {
				t.Errorf("a window of %v: %d, not %d", times, got, want)
			}
			if median.Late(want, times...) || !median.Late(want+1, times...) {
				t.Errorf("late by %v: %v, %v", times, median.Late(want, times...), median.Late(want+1, times...))
			}
		})
	}
}

func TestP9_2OrdersOfThoseThatCount(t *testing.T) {
	r := rand.New(rand.NewSource(4))
	for size := 8; size < 25; size++ {
		for range 20 {
			times := someTimes(r, size)
			want := wantOf(times)
			for range 20 {
				count := min(size, most)
				r.Shuffle(count, func(i, j int) { times[i], times[j] = times[j], times[i] })
				r.Shuffle(size-count, func(i, j int) { times[count+i], times[count+j] = times[count+j], times[count+i] })
				if got := median.Of(times...); got != want {
					t.Errorf("%v: %d, not %d", times, got, want)
				}
				pushed := slices.Clone(times)
				slices.Reverse(pushed)
				if got := windowOf(pushed...).Mid(); got != want {
					t.Errorf("a window of %v: %d, not %d", pushed, got, want)
				}
			}
		}
	}
}
