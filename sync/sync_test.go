package sync_test

import (
	"math"
	"math/big"
	"math/rand"
	"slices"
	"testing"

	"trailhead/api"
	"trailhead/score"
	"trailhead/sync"
)

// starts are times about what an int holds, and about nought.
var starts = []int{math.MinInt, math.MinInt + 1, -1 << 32, -121, -1, 0, 1, 120, 1201, 1 << 32, math.MaxInt - 1201, math.MaxInt - 120, math.MaxInt - 60, math.MaxInt - 1, math.MaxInt}

// works rise: about each word's edges.
var works = []api.Num{
	{}, {1}, {2}, {3}, {1 << 63}, {math.MaxUint64}, {0, 1}, {1, 1}, {math.MaxUint64, 1}, {0, 2}, {0, 1 << 63}, {math.MaxUint64, math.MaxUint64},
	{0, 0, 1}, {5, 0, 1}, {0, 5, 1}, {0, 0, math.MaxUint64}, {0, 0, 0, 1}, {math.MaxUint64, 0, 0, 1}, {0, 0, 0, 1 << 63}, {math.MaxUint64, math.MaxUint64, math.MaxUint64, math.MaxUint64},
}

// lags are how many seconds lie behind something, and whether they are more than some: these about which they are told.
func lags(about int) map[int]bool {
	return map[int]bool{
		0: false, 1: false, about - 1: false, about: false, about + 1: true, about + 2: true, 1 << 32: true, 1<<32 + about: true, math.MaxInt - 1: true, math.MaxInt: true,
		-1: false, -about: false, -about - 1: false, -1 << 32: false, math.MinInt: false, math.MinInt + 1: false,
	}
}

// big256: a work as a great number.
func big256(n api.Num) *big.Int {
	out := new(big.Int)
	for i, word := range n {
		out.Or(out, new(big.Int).Lsh(new(big.Int).SetUint64(word), uint(64*i)))
	}
	return out
}

// yes: a call must have answered this.
func yes(t testing.TB, what string, got, want bool) {
	t.Helper()
	if got != want {
		t.Fatalf("%s: %t", what, got)
	}
}

// tick: time goes on for a watch; what is to be done must be this.
func tick(t testing.TB, w *sync.Watch, now int, ours api.Num, main bool, want sync.Deed) {
	t.Helper()
	if got := w.Tick(now, ours, main); got != want {
		t.Fatalf("at %d, with %d: %d, not %d", now, ours, got, want)
	}
}

// waits: by these two times an answer must be waited for, and not any more; asking for that changes nothing.
func waits(t testing.TB, w *sync.Watch, still, over int) {
	t.Helper()
	for range 2 {
		yes(t, "over", w.Waits(over), false)
		yes(t, "still", w.Waits(still), true)
	}
}

// row: just so many messages more come to a fault, counted from the next one on.
func row(t testing.TB, w *sync.Watch, left int) {
	t.Helper()
	for i := 1; i <= left; i++ {
		want := score.Fault(0)
		if i == left {
			want = 4
		}
		if got := w.Loose(); got != want {
			t.Fatalf("%d of %d: %d", i, left, got)
		}
	}
}

// five, six: a peer's work, and ours, where it is behind.
var five, six = api.Num{5}, api.Num{6}

// behind: a watch of a peer that is behind, with five, since a time.
func behind(t testing.TB, since int) *sync.Watch {
	t.Helper()
	w := &sync.Watch{}
	w.Knows(five)
	tick(t, w, since, six, false, sync.Nothing)
	return w
}

// asked: as behind, and the peer was asked a last time, 1201 seconds later.
func asked(t testing.TB, since int) *sync.Watch {
	t.Helper()
	w := behind(t, since)
	tick(t, w, since+1201, six, false, sync.Ask)
	return w
}

func TestP22_1Constants(t *testing.T) {
	if sync.Wait != 120 || sync.Behind != 1200 || sync.Often != 10 {
		t.Errorf("%d, %d, %d", sync.Wait, sync.Behind, sync.Often)
	}
	if sync.Nothing != 0 || sync.Ask != 1 || sync.Drop != 2 {
		t.Errorf("%d, %d, %d", sync.Nothing, sync.Ask, sync.Drop)
	}
}

func TestP22_1Example(t *testing.T) {
	w := &sync.Watch{}
	yes(t, "first", w.Asks(5), true)
	yes(t, "second", w.Asks(6), false)
	yes(t, "came", w.Got(), true)
	yes(t, "third", w.Asks(7), true)
}

// An empty watch waits for nothing, at no time, and knows nothing.
func TestP22_1Empty(t *testing.T) {
	for _, now := range starts {
		w := &sync.Watch{}
		yes(t, "waits", w.Waits(now), false)
		yes(t, "got", w.Got(), false)
		if w.Work() != (api.Num{}) {
			t.Errorf("%d", w.Work())
		}
		w.Tied()
		w.Knows()
		tick(t, w, now, api.Num{}, true, sync.Nothing)
		tick(t, w, now+100000, api.Num{}, true, sync.Nothing) // not behind, not asked
		yes(t, "waits", w.Waits(now), false)
		row(t, w, 10)
		yes(t, "asks", w.Asks(now), true)
	}
}

// Two asks, and what is waited for behind the second one.
func TestP22_1AsksByHand(t *testing.T) {
	for _, now := range starts {
		for lag, more := range lags(120) {
			w := &sync.Watch{}
			yes(t, "first", w.Asks(now), true)
			waits(t, w, now+120, now+121)
			yes(t, "waits", w.Waits(now+lag), !more)
			yes(t, "second", w.Asks(now+lag), more)
			if more {
				waits(t, w, now+lag+120, now+lag+121) // it was asked anew
				yes(t, "third", w.Asks(now+lag), false)
			} else {
				waits(t, w, now+120, now+121) // since the first one
				yes(t, "third", w.Asks(now+121), true)
			}
			yes(t, "got", w.Got(), true)
		}
	}
}

// Asks that aren't let don't put off the next one that is.
func TestP22_1AsksInARow(t *testing.T) {
	w := &sync.Watch{}
	for now := range 1000 {
		yes(t, "asks", w.Asks(now), now%121 == 0)
		yes(t, "waits", w.Waits(now), true)
	}
}

func TestP22_1GotByHand(t *testing.T) {
	for _, now := range starts {
		w := &sync.Watch{}
		yes(t, "not asked", w.Got(), false)
		for range 3 {
			yes(t, "asks", w.Asks(now), true)
			yes(t, "got", w.Got(), true)
			for _, other := range starts {
				yes(t, "waits", w.Waits(other), false)
			}
			yes(t, "got already", w.Got(), false)
		}
		yes(t, "asks", w.Asks(now), true)
		yes(t, "late", w.Waits(now+121), false)
		yes(t, "got late", w.Got(), true) // it was asked all the same
		tick(t, w, now+1000, api.Num{}, true, sync.Nothing)
	}
}

func TestP22_1LooseByHand(t *testing.T) {
	w := &sync.Watch{}
	for i := 1; i <= 1000; i++ {
		want := score.Fault(0)
		if i%10 == 0 {
			want = score.Loose
		}
		if got := w.Loose(); got != want {
			t.Errorf("%d: %d", i, got)
		}
	}
}

// Wherever a row ends, the next one has ten again.
func TestP22_1TiedByHand(t *testing.T) {
	for count := range 35 {
		w := &sync.Watch{}
		for range count {
			w.Loose()
		}
		for range 1 + count%2 {
			w.Tied()
		}
		row(t, w, 10)
		row(t, w, 10)
	}
}

// A row ends by nothing else.
func TestP22_1OnlyTiedEndsARow(t *testing.T) {
	w := asked(t, 0)
	for i := 1; i <= 50; i++ {
		if (w.Loose() == 4) != (i%10 == 0) {
			t.Errorf("%d", i)
		}
		w.Asks(i * 70)
		w.Got()
		w.Waits(0)
		w.Work()
		w.Knows(api.Num{uint64(i % 8)})
		w.Tick(i*300, api.Num{uint64(i%3) + 4}, i%4 == 0)
	}
}

func TestP22_1KnowsByHand(t *testing.T) {
	for i, a := range works {
		for j, b := range works {
			want := works[max(i, j)]
			w, both := &sync.Watch{}, &sync.Watch{}
			w.Knows(a)
			if w.Work() != a {
				t.Fatalf("%d: %d", a, w.Work())
			}
			w.Knows(b)
			both.Knows(a, b)
			for range 2 {
				if w.Work() != want || both.Work() != want {
					t.Fatalf("%d, %d: %d, %d", a, b, w.Work(), both.Work())
				}
				w.Knows()
				both.Knows(nil...)
				both.Knows(api.Num{})
			}
		}
	}
	r := rand.New(rand.NewSource(22))
	for range 200 {
		list := make([]api.Num, 1+r.Intn(12))
		most := new(big.Int)
		for i := range list {
			list[i] = works[r.Intn(len(works))]
			if n := big256(list[i]); n.Cmp(most) > 0 {
				most = n
			}
		}
		w := &sync.Watch{}
		w.Knows(list...)
		if big256(w.Work()).Cmp(most) != 0 {
			t.Fatalf("%d: %d", list, w.Work())
		}
	}
}

func TestP22_1WhatIsHandedInStaysAndIsntKept(t *testing.T) {
	list := []api.Num{{1}, {7}, {3}, {9}, {9}}
	same := slices.Clone(list)
	w := &sync.Watch{}
	w.Knows(list[:3]...)
	if !slices.Equal(list, same) {
		t.Errorf("%d", list)
	}
	list[1] = api.Num{100}
	if w.Work() != (api.Num{7}) {
		t.Errorf("%d", w.Work())
	}
	told := w.Work()
	told[0] = 200
	if w.Work() != (api.Num{7}) {
		t.Errorf("%d", w.Work())
	}
}

// Whether a peer is behind hangs on all of its work and ours.
func TestP22_1TickLooksAtAllOfTheWork(t *testing.T) {
	for i, his := range works {
		for j, ours := range works {
			w := &sync.Watch{}
			w.Knows(his)
			want := sync.Nothing
			if i < j {
				want = sync.Ask
			}
			tick(t, w, 0, ours, false, sync.Nothing)
			tick(t, w, 1201, ours, false, want)
			if w.Work() != his {
				t.Fatalf("%d", w.Work())
			}
		}
	}
}

func TestP22_1TickOfTheMainOne(t *testing.T) {
	for _, now := range starts {
		for lag, more := range lags(120) {
			for _, ours := range []api.Num{{}, five, six} { // it isn't behind, or is
				w := &sync.Watch{}
				w.Knows(five)
				yes(t, "asks", w.Asks(now), true)
				tick(t, w, now+lag, ours, false, sync.Nothing)
				want := sync.Nothing
				if more {
					want = sync.Drop
				}
				tick(t, w, now+lag, ours, true, want)
				tick(t, w, now+lag, ours, true, want)
				yes(t, "waits", w.Waits(now+lag), !more)
				yes(t, "got", w.Got(), true)
				tick(t, w, now+lag, ours, true, sync.Nothing)
			}
		}
	}
}

// The drop of the main one comes ahead of all else: behind it the peer is behind, or isn't, as it was.
func TestP22_1TickOfTheMainOneChangesNothing(t *testing.T) {
	w := &sync.Watch{}
	w.Knows(five)
	w.Asks(0)
	tick(t, w, 200, six, true, sync.Drop)
	w.Got()
	tick(t, w, 1400, six, true, sync.Nothing) // since now, not since 200
	tick(t, w, 2600, six, true, sync.Nothing)
	w.Asks(2400)
	tick(t, w, 2601, six, true, sync.Drop)
	tick(t, w, 2601, five, true, sync.Drop) // it doesn't come to this that it isn't behind
	tick(t, w, 2601, six, false, sync.Ask)
	w.Asks(2601)
	tick(t, w, 2721, six, true, sync.Nothing)
	w.Got()
	tick(t, w, 2721, six, true, sync.Nothing)
	tick(t, w, 2722, six, true, sync.Drop)
}

func TestP22_1TickAsksALastTime(t *testing.T) {
	for _, now := range starts {
		for lag, more := range lags(1200) {
			for _, main := range []bool{false, true} {
				w := behind(t, now)
				want := sync.Nothing
				if more {
					want = sync.Ask
				}
				tick(t, w, now+lag, six, main, want)
				tick(t, w, now+lag, six, main, sync.Nothing) // once, and at once nobody is dropped
				if !more {
					tick(t, w, now+1200, six, main, sync.Nothing)
					tick(t, w, now+1201, six, main, sync.Ask)
				}
			}
		}
	}
}

func TestP22_1TickDropsBehindTheLastTime(t *testing.T) {
	for _, now := range starts {
		for lag, more := range lags(120) {
			for _, main := range []bool{false, true} {
				w := asked(t, now)
				want := sync.Nothing
				if more {
					want = sync.Drop
				}
				at := now + 1201 + lag
				tick(t, w, at, six, main, want)
				tick(t, w, at, six, main, want)
				tick(t, w, now+1201+120, six, main, sync.Nothing) // since the last time, whatever was answered
				tick(t, w, now+1201+121, six, main, sync.Drop)
			}
		}
	}
}

// A peer that isn't less any more isn't behind, wherever it stood; when it is less again, all begins anew.
func TestP22_1TickForgets(t *testing.T) {
	for _, main := range []bool{false, true} {
		for _, ours := range []api.Num{{}, {4}, five} { // our tip's work may become less, too
			for name, w := range map[string]*sync.Watch{"new": {}, "behind": behind(t, 0), "long": behind(t, -1200), "asked": asked(t, -1201), "dropped": asked(t, -5000)} {
				w.Knows(five)
				tick(t, w, 0, ours, main, sync.Nothing)
				for _, c := range []struct {
					now  int
					want sync.Deed
				}{{1000, sync.Nothing}, {2200, sync.Nothing}, {2201, sync.Ask}, {2321, sync.Nothing}, {2322, sync.Drop}, {9000, sync.Drop}} {
					if got := w.Tick(c.now, six, main); got != c.want {
						t.Fatalf("%s, at %d: %d, not %d", name, c.now, got, c.want)
					}
				}
			}
		}
	}
}

// What it has shown in between counts at the next tick, and only as far as it goes.
func TestP22_1TickBehindKnows(t *testing.T) {
	for _, his := range works {
		w := asked(t, 0)
		w.Knows(his)
		want := sync.Drop
		if big256(his).Cmp(big.NewInt(6)) >= 0 {
			want = sync.Nothing
		}
		tick(t, w, 9000, six, false, want)
	}
	w := behind(t, 0)
	w.Knows(six)
	tick(t, w, 1201, api.Num{7}, false, sync.Ask) // since 0 no tick found it otherwise
	w.Knows(api.Num{7})
	tick(t, w, 9000, api.Num{8}, false, sync.Drop)
	tick(t, w, 9000, api.Num{7}, false, sync.Nothing)
}

// To be asked a last time is a deed for others: what is waited for stays as it was, and the other way round.
func TestP22_1AskIsNotAsks(t *testing.T) {
	w := asked(t, 0)
	yes(t, "waits", w.Waits(1201), false)
	yes(t, "got", w.Got(), false)
	yes(t, "asks", w.Asks(1201), true)
	yes(t, "got", w.Got(), true)
	tick(t, w, 1321, six, false, sync.Nothing)
	yes(t, "asks", w.Asks(1321), true)
	tick(t, w, 1322, six, false, sync.Drop) // headers that came are no more work
	waits(t, w, 1441, 1442)
	w = behind(t, 0)
	yes(t, "asks", w.Asks(1150), true)
	tick(t, w, 1201, six, false, sync.Ask)
	waits(t, w, 1270, 1271)
	tick(t, w, 1321, six, false, sync.Nothing)
	tick(t, w, 1322, six, false, sync.Drop)
}

func TestP22_1Nil(t *testing.T) {
	var w *sync.Watch
	for _, now := range starts {
		for range 12 {
			if f := w.Loose(); f != 0 {
				t.Errorf("%d", f)
			}
			yes(t, "asks", w.Asks(now), false)
			yes(t, "waits", w.Waits(now), false)
			yes(t, "got", w.Got(), false)
		}
		w.Tied()
		w.Knows(works...)
		w.Knows()
		if w.Work() != (api.Num{}) {
			t.Errorf("%d", w.Work())
		}
		for _, ours := range works {
			for _, lag := range []int{0, 121, 1201, 5000} {
				tick(t, w, now+lag, ours, true, sync.Nothing)
				tick(t, w, now+lag, ours, false, sync.Nothing)
			}
		}
	}
}

// deed is one thing that was done to a watch.
type deed struct {
	what  string // asks, got, loose, tied, knows, tick
	now   int
	works []api.Num // of knows; of tick ours
	main  bool
}

// record is all that was done to a watch, in order: what it answers is reckoned from this alone, each time anew.
type record []deed

// behind: the deeds behind the last one of a kind.
func (r record) behind(what string) record {
	for i := len(r) - 1; i >= 0; i-- {
		if r[i].what == what {
			return r[i+1:]
		}
	}
	return r
}

// asked: the times at which the peer was asked, since headers came; the last one counts.
func (r record) asked() []int {
	var out []int
	for _, d := range r.behind("got") {
		if d.what == "asks" && (len(out) == 0 || d.now-out[len(out)-1] > 120) {
			out = append(out, d.now)
		}
	}
	return out
}

// late: whether the peer was asked more than 120 seconds ahead of a time.
func (r record) late(now int) bool {
	list := r.asked()
	return len(list) > 0 && now-list[len(list)-1] > 120
}

// loose: how many messages stand in the row.
func (r record) loose() int {
	count := 0
	for _, d := range r.behind("tied") {
		if d.what == "loose" {
			count++
		}
	}
	return count
}

// most: the most work that was shown.
func (r record) most() *big.Int {
	out := new(big.Int)
	for _, d := range r {
		for _, n := range d.works {
			if m := big256(n); d.what == "knows" && m.Cmp(out) > 0 {
				out = m
			}
		}
	}
	return out
}

// lost: whether the last deed is a tick at which the peer is dropped as the main one.
func (r record) lost() bool {
	d := r[len(r)-1]
	return d.main && r[:len(r)-1].late(d.now)
}

// short: the times of those ticks, one behind the other up to the last deed, at which the peer's work was less than ours.
func (r record) short() []int {
	var out []int
	for i := len(r); i > 0; i-- {
		d := r[i-1]
		if d.what != "tick" || r[:i].lost() {
			continue
		}
		if r[:i].most().Cmp(big256(d.works[0])) >= 0 {
			break
		}
		out = append(out, d.now)
	}
	slices.Reverse(out)
	return out
}

// tick: what is to be done at the last deed.
func (r record) tick() sync.Deed {
	if r.lost() {
		return sync.Drop
	}
	list := r.short()
	if len(list) == 0 {
		return sync.Nothing
	}
	end := len(list) - 1
	last := slices.IndexFunc(list, func(now int) bool { return now-list[0] > 1200 })
	switch {
	case last == end:
		return sync.Ask
	case last >= 0 && list[end]-list[last] > 120:
		return sync.Drop
	}
	return sync.Nothing
}

// do: a deed to a watch; what it answers must be what the record tells.
func do(t testing.TB, w *sync.Watch, log record, d deed) record {
	t.Helper()
	ahead := log
	log = append(log, d)
	switch d.what {
	case "asks":
		yes(t, "asks", w.Asks(d.now), len(ahead.asked()) == 0 || ahead.late(d.now))
	case "got":
		yes(t, "got", w.Got(), len(ahead.asked()) > 0)
	case "loose":
		want := score.Fault(0)
		if log.loose()%10 == 0 {
			want = score.Loose
		}
		if got := w.Loose(); got != want {
			t.Fatalf("loose: %d, not %d", got, want)
		}
	case "tied":
		w.Tied()
	case "knows":
		w.Knows(d.works...)
	case "tick":
		tick(t, w, d.now, d.works[0], d.main, log.tick())
	}
	return log
}

// looks: what a watch answers about itself must be what the record tells.
func looks(t testing.TB, w *sync.Watch, log record, now int) {
	t.Helper()
	for _, at := range []int{now, now - 1, now + 60, now + 120, now + 121} {
		yes(t, "waits", w.Waits(at), len(log.asked()) > 0 && !log.late(at))
	}
	if got := big256(w.Work()); got.Cmp(log.most()) != 0 {
		t.Fatalf("work: %d, not %d", got, log.most())
	}
}

// anyDeed: at a time; works are from the list.
func anyDeed(r *rand.Rand, now int, list []api.Num) deed {
	d := deed{now: now, main: r.Intn(3) == 0}
	d.what = []string{"asks", "asks", "got", "loose", "loose", "loose", "loose", "loose", "knows", "tick", "tick", "tick", "tick", "tick", "tick"}[r.Intn(15)]
	if r.Intn(60) == 0 {
		d.what = "tied"
	}
	switch d.what {
	case "knows":
		d.works = make([]api.Num, r.Intn(3))
		for i := range d.works {
			d.works[i] = list[r.Intn(1+r.Intn(len(list)))]
		}
	case "tick":
		d.works = []api.Num{list[max(r.Intn(len(list)), r.Intn(len(list)))]}
	}
	return d
}

func TestP22_1AnyOrder(t *testing.T) {
	steps := []int{0, 1, 2, 59, 60, 61, 119, 120, 121, 122, 400, 601, 1199, 1200, 1201, -1, -60, -121}
	deeds := map[sync.Deed]int{}
	for seed := range int64(60) {
		r := rand.New(rand.NewSource(2200 + seed))
		now := starts[seed%int64(len(starts))]
		w, other := &sync.Watch{}, &sync.Watch{}
		var log, far record
		list := works[:2+r.Intn(len(works)-1)]
		for range 150 {
			now += steps[r.Intn(len(steps))]
			if r.Intn(40) == 0 {
				now += starts[r.Intn(len(starts))]
			}
			d := anyDeed(r, now, list)
			log = do(t, w, log, d)
			looks(t, w, log, now)
			if d.what == "tick" {
				deeds[log.tick()]++
			}
			if r.Intn(4) == 0 { // two watches know nothing of one another
				far = do(t, other, far, anyDeed(r, now, list))
				looks(t, other, far, now)
			}
		}
	}
	for _, d := range []sync.Deed{sync.Nothing, sync.Ask, sync.Drop} {
		if deeds[d] < 100 {
			t.Errorf("%d: %d times", d, deeds[d])
		}
	}
}

// lagging is a peer that answers within some seconds, and is behind for no more than some, as ticks tell it.
type lagging struct {
	w       *sync.Watch
	ours    uint64
	his     uint64
	waiting bool
	since   int // when it was asked
	less    bool
	from    int // the tick that found it to be behind first
}

// answers: headers come, and perhaps they show as much work as we have.
func (p *lagging) answers(up bool) {
	p.w.Got()
	p.waiting = false
	if up {
		p.his = p.ours
		p.w.Knows(api.Num{0, p.his})
	}
}

// asks: it is asked, if it may be.
func (p *lagging) asks(now int) {
	if p.w.Asks(now) {
		p.waiting, p.since = true, now
	}
}

// ticks: time goes on to now, ahead of which the peer does what it must do by then; what is to be done.
func (p *lagging) ticks(now, wait, behind int, main bool) sync.Deed {
	if late := p.less && now-p.from > behind; late || p.waiting && now-p.since > wait {
		p.answers(late)
	}
	if p.less = p.less && p.his < p.ours; !p.less && p.his < p.ours {
		p.less, p.from = true, now
	}
	return p.w.Tick(now, api.Num{0, p.ours}, main)
}

// goes: many ticks of such a peer; which deeds there were.
func goes(r *rand.Rand, now, wait, behind int) map[sync.Deed]int {
	p := &lagging{w: &sync.Watch{}}
	deeds := map[sync.Deed]int{}
	for range 3000 {
		if r.Intn(6) == 0 {
			p.ours += uint64(r.Intn(2))
		}
		if r.Intn(5) == 0 {
			p.asks(now)
		}
		if r.Intn(8) == 0 {
			p.answers(r.Intn(8) == 0)
		}
		now += []int{1, 10, 30, 40, 60, 119, 120, 121, 600, 1200, 1201}[r.Intn(11)]
		d := p.ticks(now, wait, behind, r.Intn(2) == 0)
		deeds[d]++
		if d == sync.Ask {
			p.asks(now)
		}
	}
	return deeds
}

func TestP22_2HonestIsNeverDropped(t *testing.T) {
	for seed := range int64(40) {
		r := rand.New(rand.NewSource(seed))
		now := starts[seed%int64(len(starts))]
		if deeds := goes(r, now, 120, 1200); deeds[sync.Drop] != 0 || deeds[sync.Ask] != 0 {
			t.Errorf("%d: %d", seed, deeds)
		}
	}
}

// What the test above looks for is there to be found: whoever is a second slower, or behind for longer, is dropped now and then.
func TestP22_2OthersAreDropped(t *testing.T) {
	slow, low := 0, 0
	for seed := range int64(40) {
		slow += goes(rand.New(rand.NewSource(seed)), 0, 121, 1200)[sync.Drop]
		low += goes(rand.New(rand.NewSource(seed)), 0, 120, 1321+1200)[sync.Drop]
	}
	if slow == 0 || low == 0 {
		t.Errorf("%d, %d", slow, low)
	}
}

// At the very edges, over and over: an answer in the 120th second, as much work in the 1200th.
func TestP22_2Edges(t *testing.T) {
	for _, start := range starts {
		w := &sync.Watch{}
		now, ours := start, uint64(0)
		for range 50 {
			ours++
			tick(t, w, now, api.Num{0, 0, ours}, true, sync.Nothing)
			for range 10 {
				yes(t, "asks", w.Asks(now), true)
				now += 120
				tick(t, w, now, api.Num{0, 0, ours}, true, sync.Nothing)
				yes(t, "got", w.Got(), true)
			}
			w.Knows(api.Num{0, 0, ours})
			tick(t, w, now, api.Num{0, 0, ours}, true, sync.Nothing)
			now++
		}
	}
}

// A peer that is behind for too long, but comes up within 120 seconds of the last ask, isn't dropped either.
func TestP22_2ComesUpBehindTheLastAsk(t *testing.T) {
	for _, start := range starts {
		for lag := range 122 {
			w := asked(t, start)
			now := start + 1201
			yes(t, "asks", w.Asks(now), true)
			tick(t, w, now+min(lag, 120), six, true, sync.Nothing)
			if lag < 121 {
				yes(t, "got", w.Got(), true)
				w.Knows(six)
				tick(t, w, now+100000, six, true, sync.Nothing)
			} else {
				tick(t, w, now+lag, six, false, sync.Drop)
			}
		}
	}
}
