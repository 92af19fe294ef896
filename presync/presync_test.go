package presync_test

import (
	"crypto/sha256"
	"encoding/binary"
	"math"
	"math/big"
	"math/rand"
	"runtime"
	"slices"
	"testing"

	"trailhead/api"
	"trailhead/header"
	"trailhead/pace"
	"trailhead/pledge"
	"trailhead/presync"
	"trailhead/rule"
	"trailhead/whole"
	"trailhead/work"
)

// easiest is the limit of the rules here: every other name meets it, and two tries are behind it.
const easiest = 0x207fffff

// late is a clock by which no header here comes too early.
const late = 1 << 30

// usual are rules by which the tenth header behind the genesis is the one by which there is work enough, if all are as easy as may be.
var usual = api.Params{
	Limit: easiest, Interval: 64, Spacing: 10, Future: 1000, MinWork: api.Num{22},
	Genesis: api.Header{Version: 1, Time: 50, Bits: easiest},
}

// everySecond is a plan by which 1, 3, 5 and so on have bits.
var everySecond = pledge.Plan{Salt: 5, Period: 2, Offset: 1}

// planOf: a plan.
func planOf(salt, period, offset int) pledge.Plan {
	return pledge.Plan{Salt: salt, Period: period, Offset: offset}
}

// with: rules with something changed.
func with(p api.Params, change func(p *api.Params)) api.Params {
	change(&p)
	return p
}

// mined: a header with a number by which its name meets its target.
func mined(t testing.TB, h api.Header) api.Header {
	t.Helper()
	h, found := header.Seek(h, 1<<20)
	if !found {
		t.Fatalf("%+v: no number", h)
	}
	return h
}

// next: a header that is Fine at a spot, with such a time; unlike others by its root.
func next(t testing.TB, p api.Params, at rule.Spot, time, root int) api.Header {
	t.Helper()
	h := api.Header{Version: 1, Prev: at.Prev, Time: time, Bits: pace.Next(p, at.Point, time)}
	binary.LittleEndian.PutUint64(h.Root[:], uint64(root))
	return mined(t, h)
}

// line: so many headers from a spot on, each so many seconds behind the one ahead.
func line(t testing.TB, p api.Params, at rule.Spot, count, step, root int) []api.Header {
	t.Helper()
	out := make([]api.Header, count)
	for i := range out {
		out[i] = next(t, p, at, at.Time+step, root)
		at = rule.Behind(p, at, out[i])
	}
	return out
}

// behind: the spot behind headers from another one on.
func behind(p api.Params, at rule.Spot, list ...api.Header) rule.Spot {
	for _, h := range list {
		at = rule.Behind(p, at, h)
	}
	return at
}

// genesis: the start behind it.
func genesis(p api.Params) presync.Start {
	return presync.Start{Spot: rule.Begin(p), Work: api.Num{2}}
}

// names: of headers.
func names(list []api.Header) []api.Hash {
	var out []api.Hash
	for _, h := range list {
		out = append(out, header.Id(h))
	}
	return out
}

// made: a chain that is looked at.
func made(t testing.TB, p api.Params, from presync.Start, plan pledge.Plan, size, now int) *presync.Sync {
	t.Helper()
	s, e := presync.New(p, from, plan, size, now)
	if s == nil || e != api.OK {
		t.Fatalf("%+v, %+v, %d, %d: %d", p, plan, size, now, e)
	}
	is(t, s, presync.First, from.Prev, 0, 0)
	return s
}

// is: so it must stand.
func is(t testing.TB, s *presync.Sync, phase int, ask api.Hash, bits, held int) {
	t.Helper()
	if s.Phase() != phase || s.Ask() != ask || s.Bits() != bits || s.Held() != held {
		t.Fatalf("phase %d, behind %x, %d bits, %d held, not %d, %x, %d, %d", s.Phase(), s.Ask(), s.Bits(), s.Held(), phase, ask, bits, held)
	}
}

// may: headers come, and these may be stored.
func may(t testing.TB, s *presync.Sync, more bool, list []api.Header, want ...api.Header) {
	t.Helper()
	if out, e := s.Feed(late, more, list...); e != api.OK || !slices.Equal(out, want) {
		t.Fatalf("%d headers, %d, not %d", len(out), e, len(want))
	}
}

// ends: headers come, and with this error it is over.
func ends(t testing.TB, s *presync.Sync, now int, more bool, want api.Errno, list ...api.Header) {
	t.Helper()
	if out, e := s.Feed(now, more, list...); e != want || len(out) != 0 {
		t.Fatalf("%d headers, %d, not %d", len(out), e, want)
	}
	down(t, s, presync.Over, list...)
}

// down: nothing more is taken, whatever comes.
func down(t testing.TB, s *presync.Sync, phase int, list ...api.Header) {
	t.Helper()
	ask, bits, held := s.Ask(), s.Bits(), s.Held()
	for _, now := range []int{-1, 0, late, api.MaxTime, api.MaxTime + 1} {
		for _, more := range []bool{false, true} {
			for _, l := range [][]api.Header{nil, list, make([]api.Header, 65)} {
				if out, e := s.Feed(now, more, l...); e != api.ErrDown || len(out) != 0 {
					t.Fatalf("%d headers, %d, not down", len(out), e)
				}
			}
		}
	}
	is(t, s, phase, ask, bits, held)
}

// chunks: does something with each piece of a list, cut so long, and whether there are more behind it.
func chunks(list []api.Header, size int, do func(piece []api.Header, more bool)) {
	for at := 0; at < len(list); at += size {
		end := min(at+size, len(list))
		do(list[at:end], end < len(list))
	}
}

func TestP19_1Phases(t *testing.T) {
	if presync.Over != 0 || presync.First != 1 || presync.Again != 2 || presync.Done != 3 {
		t.Errorf("%d %d %d %d", presync.Over, presync.First, presync.Again, presync.Done)
	}
}

func TestP19_1NewByHand(t *testing.T) {
	from := genesis(usual)
	for _, size := range []int{1, 2, 16, 63, 64} {
		for _, now := range []int{0, 1, late, 1<<32 - 1, 1 << 32} {
			for _, plan := range []pledge.Plan{planOf(0, 1, 0), planOf(7, 4, 1), planOf(math.MinInt, 64, 63)} {
				made(t, usual, from, plan, size, now)
			}
		}
	}
	made(t, usual, presync.Start{}, everySecond, 1, 0) // of a start nothing is asked
	wrong := func(what string, p api.Params, plan pledge.Plan, size, now int) {
		if s, e := presync.New(p, from, plan, size, now); s != nil || e != api.ErrArg {
			t.Errorf("%s: %d", what, e)
		}
	}
	for _, size := range []int{math.MinInt, -64, -1, 0, 65, 66, 512, 1 << 32, 1<<32 + 1, math.MaxInt} {
		wrong("size", usual, everySecond, size, late)
	}
	for _, now := range []int{math.MinInt, -1 << 32, -1, 1<<32 + 1, 1 << 33, math.MaxInt} {
		wrong("clock", usual, everySecond, 16, now)
	}
	for _, plan := range []pledge.Plan{{}, planOf(5, 65, 1), planOf(5, 4, 4), planOf(5, 4, -1), planOf(5, -4, 1), planOf(5, math.MinInt, 0)} {
		wrong("plan", usual, plan, 16, late)
	}
	for _, p := range []api.Params{
		{}, with(usual, func(p *api.Params) { p.Limit = 0 }), with(usual, func(p *api.Params) { p.Interval = 65 }), with(usual, func(p *api.Params) { p.Future = -1 }),
		with(usual, func(p *api.Params) { p.Genesis.Nonce = -1 }), with(usual, func(p *api.Params) { p.Gates = []api.Gate{{Height: 2}, {Height: 2}} }),
		with(usual, func(p *api.Params) { p.Checks = []api.Check{{Height: 0}} }),
	} {
		wrong("rules", p, everySecond, 16, late)
	}
}

func TestP19_1MostByHand(t *testing.T) {
	for _, c := range []struct{ period, offset, seconds, want int }{
		{4, 0, 10, 16}, {4, 3, 10, 16}, {1, 0, 0, 1}, {64, 0, 0, 1}, {64, 63, 10, 1}, {64, 63, 11, 2}, {1, 0, 1, 7}, {6, 0, 1, 2}, {7, 0, 1, 1}, {7, 6, 2, 2},
		{1, 0, 1 << 33, 6<<33 + 1}, {8, 5, 1 << 33, 6<<30 + 1}, {1, 0, 1<<33 - 1, 6<<33 - 5}, {2, 1, 1 << 32, 6<<31 + 1},
		{4, 0, -1, 0}, {1, 0, -1, 0}, {1, 0, math.MinInt, 0}, {64, 0, -1 << 33, 0},
		{0, 0, 10, 0}, {-4, 0, 10, 0}, {65, 0, 10, 0}, {4, 4, 10, 0}, {4, -1, 10, 0}, {0, 0, -1, 0}, {4, 5, 0, 0}, {math.MinInt, 0, 10, 0}, {4, math.MaxInt, 10, 0},
	} {
		for _, salt := range []int{0, 7, math.MinInt} {
			plan := pledge.Plan{Salt: salt, Period: c.period, Offset: c.offset}
			if got := presync.Most(plan, c.seconds); got != c.want {
				t.Errorf("%+v, %d: %d, not %d", plan, c.seconds, got, c.want)
			}
		}
	}
}

func TestP19_1MostOfAllPlans(t *testing.T) {
	list := []int{1<<32 - 1, 1 << 32, 1<<32 + 1, 1<<33 - 1, 1 << 33, -1, -2, math.MinInt}
	for n := range 150 {
		list = append(list, n)
	}
	for period := -1; period < 67; period++ {
		for _, offset := range []int{-1, 0, period / 2, period - 1, period} {
			plan := pledge.Plan{Salt: 3, Period: period, Offset: offset}
			for _, seconds := range list {
				want := 0
				if pledge.Good(plan) && seconds >= 0 {
					n := new(big.Int).Mul(big.NewInt(6), big.NewInt(int64(seconds)))
					n.Div(n, big.NewInt(int64(period)))
					want = int(n.Int64()) + 1
				}
				if got := presync.Most(plan, seconds); got != want {
					t.Fatalf("%+v, %d: %d, not %d", plan, seconds, got, want)
				}
			}
			presync.Most(plan, math.MaxInt) // that it ends is all
		}
	}
}

func TestP19_1ByHand(t *testing.T) {
	row := line(t, usual, rule.Begin(usual), 14, 10, 0) // the tenth is the one by which there is work enough
	id := names(row)
	s := made(t, usual, genesis(usual), everySecond, 3, late)
	may(t, s, true, row[:4])
	is(t, s, presync.First, id[3], 2, 0)
	may(t, s, true, nil)
	is(t, s, presync.First, id[3], 2, 0)
	may(t, s, true, row[4:9])
	is(t, s, presync.First, id[8], 5, 0)
	may(t, s, false, row[9:13])
	is(t, s, presync.Again, header.Id(usual.Genesis), 5, 0)
	may(t, s, true, nil)
	is(t, s, presync.Again, header.Id(usual.Genesis), 5, 0)
	may(t, s, true, row[:2])
	is(t, s, presync.Again, id[1], 5, 2)
	may(t, s, true, row[2:3])
	is(t, s, presync.Again, id[2], 5, 3)
	may(t, s, true, row[3:4], row[0])
	is(t, s, presync.Again, id[3], 5, 3)
	may(t, s, true, row[4:9], row[1:6]...)
	is(t, s, presync.Again, id[8], 5, 3)
	may(t, s, true, row[9:12], row[6:12]...)
	is(t, s, presync.Done, id[11], 5, 0)
	down(t, s, presync.Done, row[12:]...)
	is(t, s, presync.Done, id[11], 5, 0)
}

// Messages are cut in all lengths, and buffers have all sizes.
func TestP19_1AllSizes(t *testing.T) {
	p := with(usual, func(p *api.Params) { p.MinWork = api.Num{2 + 2*61} })
	row := line(t, p, rule.Begin(p), 62, 11, 0) // there is one more than must be
	id := append([]api.Hash{header.Id(p.Genesis)}, names(row)...)
	plan := pledge.Plan{Salt: 9, Period: 8, Offset: 3} // 3, 11, 19, 27, 35, 43, 51, 59
	for size := 1; size <= 64; size++ {
		for _, cut := range []int{1, 2, 7, 16, 17, 61, 62} {
			s := made(t, p, genesis(p), plan, size, late)
			n := 0
			chunks(row[:61], cut, func(piece []api.Header, more bool) {
				may(t, s, more, piece)
				if n += len(piece); n < 61 {
					is(t, s, presync.First, id[n], (n+5)/8, 0)
				}
			})
			is(t, s, presync.Again, id[0], 8, 0)
			n = 0
			chunks(row, cut, func(piece []api.Header, more bool) {
				if n >= 61 {
					down(t, s, presync.Done, piece...)
					return
				}
				from, to := max(0, n-size), max(0, n+len(piece)-size)
				if n += len(piece); n >= 61 {
					to = n
				}
				may(t, s, more, piece, row[from:to]...)
				if n < 61 {
					is(t, s, presync.Again, id[n], 8, n-to)
				}
			})
			is(t, s, presync.Done, id[n], 8, 0)
		}
	}
}

// The example of the chapter, as short as may be: one header, told twice.
func TestP19_1Twice(t *testing.T) {
	for _, least := range []api.Num{{}, {1}, {2}, {3}, {4}} { // where the start has work enough a header must come all the same
		p := with(usual, func(p *api.Params) { p.MinWork = least })
		row := line(t, p, rule.Begin(p), 3, 10, 0)
		for _, plan := range []pledge.Plan{everySecond, planOf(1, 1, 0), planOf(1, 2, 0), planOf(1, 64, 5)} {
			bits := 0
			if plan.Due(1) {
				bits = 1
			}
			s := made(t, p, genesis(p), plan, 1, late)
			may(t, s, true, nil)
			is(t, s, presync.First, row[0].Prev, 0, 0)
			may(t, s, false, row[:1])
			is(t, s, presync.Again, row[0].Prev, bits, 0)
			may(t, s, true, nil)
			may(t, s, false, row[:1], row[0])
			is(t, s, presync.Done, header.Id(row[0]), bits, 0)
			s = made(t, p, genesis(p), plan, 1, late)
			may(t, s, true, row)
			is(t, s, presync.Again, row[0].Prev, bits, 0)
			may(t, s, true, row, row...)
			is(t, s, presync.Done, header.Id(row[2]), bits, 0)
		}
	}
}

// Work enough is as much as MinWork, or more; numbers of 256 bits, that stop at the greatest one.
func TestP19_1WorkEnough(t *testing.T) {
	top := uint64(math.MaxUint64)
	for i, c := range []struct {
		start, least api.Num
		want         int // of how many headers; 0: not of six
	}{
		{api.Num{2}, api.Num{7}, 3}, {api.Num{2}, api.Num{8}, 3}, {api.Num{2}, api.Num{9}, 4}, {api.Num{3}, api.Num{9}, 3}, {api.Num{3}, api.Num{10}, 4}, {api.Num{}, api.Num{2}, 1}, {api.Num{}, api.Num{3}, 2},
		{api.Num{top - 3}, api.Num{0, 1}, 2}, {api.Num{top - 4}, api.Num{0, 1}, 3}, {api.Num{top}, api.Num{1, 1}, 1}, {api.Num{top}, api.Num{2, 1}, 2}, {api.Num{6}, api.Num{6, 1}, 0}, {api.Num{6, 1}, api.Num{6}, 1},
		{api.Num{top, top, top}, api.Num{0, 0, 0, 1}, 1}, {api.Num{5}, api.Num{0, 0, 0, 1}, 0}, {api.Num{0, 0, 0, 1}, api.Num{top, top, top}, 1}, {api.Num{0, 0, 0, 7}, api.Num{1, 0, 0, 8}, 0},
		{api.Num{top - 5, top, top, top}, whole.Most(), 3}, {api.Num{top - 4, top, top, top}, whole.Most(), 2}, {api.Num{top - 1, top, top, top}, whole.Most(), 1}, {whole.Most(), whole.Most(), 1}, {api.Num{top - 20, top, top, top}, whole.Most(), 0},
	} {
		p := with(usual, func(p *api.Params) { p.MinWork = c.least })
		row := line(t, p, rule.Begin(p), 6, 10, 0)
		s := made(t, p, presync.Start{Spot: rule.Begin(p), Work: c.start}, everySecond, 64, late)
		for n := 1; n <= 6 && s.Phase() == presync.First; n++ {
			may(t, s, true, row[n-1:n])
			if (s.Phase() == presync.Again) != (n == c.want) {
				t.Errorf("%d: phase %d by %d", i, s.Phase(), n)
			}
		}
		for n := 1; n <= c.want; n++ {
			var want []api.Header
			if n == c.want {
				want = row[:n]
			}
			may(t, s, true, row[n-1:n], want...)
			if (s.Phase() == presync.Done) != (n == c.want) {
				t.Errorf("%d: phase %d by %d", i, s.Phase(), n)
			}
		}
	}
}

// spoils: what is wrong with a header, each by one thing alone; the rules are told of gates and checks of it.
func spoils(t testing.TB, p api.Params, at rule.Spot, h api.Header, now int) map[rule.Reason]api.Header {
	t.Helper()
	out := map[rule.Reason]api.Header{}
	for why := rule.NoHeader; why <= rule.OffTrack; why++ {
		x := h
		switch why {
		case rule.NoHeader:
			x.Version = 1 << 31
		case rule.Elsewhere:
			x.Prev[31]++
		case rule.WrongBits:
			x.Bits--
		case rule.NoWork:
			for rule.Itself(p, x) != rule.NoWork {
				x.Nonce++
			}
		case rule.TooOld:
			x.Time = at.Times[len(at.Times)/2]
		case rule.TooNew:
			x.Time = now + p.Future + 1
		case rule.OldVersion:
			x.Version = 0
		case rule.OffTrack:
			x.Root[0]++
		}
		if why != rule.NoHeader && why != rule.NoWork {
			x = mined(t, x)
		}
		if got := rule.Check(p, at, x, now); got != why {
			t.Fatalf("%d, not %d", got, why)
		}
		out[why] = x
	}
	return out
}

// Every wrong header, at every height, as the first of a message, behind others, or as the last.
func TestP19_1WrongHeaders(t *testing.T) {
	p := usual
	row := line(t, p, rule.Begin(p), 14, 10, 0)
	p.Gates = []api.Gate{{Height: 1, Version: 1}}
	for i, id := range names(row) {
		p.Checks = append(p.Checks, api.Check{Height: i + 1, Id: id})
	}
	now := row[13].Time
	for i := range row {
		for why, x := range spoils(t, p, behind(p, rule.Begin(p), row[:i]...), row[i], now) {
			for _, from := range []int{0, i / 2, i} {
				for _, more := range []bool{false, true} {
					for _, to := range []int{i + 1, 14} {
						message := slices.Clone(row[from:to])
						message[i-from] = x
						wrongAt(t, p, row, message, i, from, now, more, why)
					}
				}
			}
		}
	}
}

// wrongAt: a message is told, that begins at from, and of which that at i is wrong; the tenth is the one by which there is work enough.
func wrongAt(t testing.TB, p api.Params, row, message []api.Header, i, from, now int, more bool, why rule.Reason) {
	t.Helper()
	if from < 10 {
		s := made(t, p, genesis(p), everySecond, 3, now)
		may(t, s, true, row[:from])
		if i < 10 {
			ends(t, s, now, more, api.ErrRule, message...)
		} else if out, e := s.Feed(now, more, message...); e != api.OK || len(out) != 0 { // it isn't looked at
			t.Fatalf("%d at %d: %d, %d headers", why, i, e, len(out))
		} else {
			is(t, s, presync.Again, row[0].Prev, 5, 0)
		}
	}
	s := made(t, p, genesis(p), everySecond, 3, now)
	may(t, s, true, row)
	is(t, s, presync.Again, row[0].Prev, 5, 0)
	may(t, s, true, row[:min(from, 9)], row[:max(0, min(from, 9)-3)]...)
	if from > 9 {
		message = append(slices.Clone(row[9:from]), message...)
	}
	ends(t, s, now, more, api.ErrRule, message...)
}

// Whether a header comes too early is asked by the clock of its own message.
func TestP19_1ClockOfTheMessage(t *testing.T) {
	p := with(usual, func(p *api.Params) { p.Future, p.MinWork = 7, api.Num{8} })
	row := line(t, p, rule.Begin(p), 3, 10, 0) // 60, 70, 80
	for _, begin := range []int{0, 50, 1 << 32} {
		for _, now := range []int{52, 53} {
			want := api.ErrRule
			if now == 53 {
				want = api.OK
			}
			s := made(t, p, genesis(p), pledge.Plan{Period: 64}, 3, begin)
			if _, e := s.Feed(now, true, row[0]); e != want {
				t.Errorf("%d, %d: %d", begin, now, e)
			}
			s = made(t, p, genesis(p), pledge.Plan{Period: 64}, 3, begin)
			may(t, s, true, row)
			if _, e := s.Feed(now, true, row[0]); e != want {
				t.Errorf("%d, %d: %d, once more", begin, now, e)
			}
		}
		s := made(t, p, genesis(p), pledge.Plan{Period: 64}, 3, begin)
		if out, e := s.Feed(1<<32, true, row...); e != api.OK || len(out) != 0 {
			t.Errorf("%d: %d", begin, e)
		}
		if out, e := s.Feed(63, true, row[:2]...); e != api.OK || len(out) != 0 {
			t.Errorf("%d: %d", begin, e)
		}
		if out, e := s.Feed(73, true, row[2]); e != api.OK || !slices.Equal(out, row) {
			t.Errorf("%d: %d", begin, e)
		}
	}
}

// hasty are headers with the same time nearly, as many as are asked for; each is behind the middle of those ahead.
func hasty(t testing.TB, p api.Params, at rule.Spot, count int) []api.Header {
	t.Helper()
	var out []api.Header
	for len(out) < count {
		mid := slices.Sorted(slices.Values(at.Times[:min(len(at.Times), 11)]))
		time := 1
		if len(mid) > 0 {
			time = mid[len(mid)/2] + 1
		}
		h := next(t, p, at, time, 0)
		out = append(out, h)
		at = rule.Behind(p, at, h)
	}
	return out
}

// How many bits there may be hangs on the start's times, on the clock at the beginning, Future, and the plan's Period.
func TestP19_1HowManyBits(t *testing.T) {
	for i, c := range []struct {
		times       []int
		now, future int
		period      int
		want        int
	}{
		{[]int{100}, 105, 0, 1, 31}, {[]int{100}, 105, 3, 1, 49}, {[]int{100}, 105, 3, 5, 10}, {[]int{100}, 105, 3, 64, 1}, {[]int{100}, 105, 6, 64, 2}, {[]int{100}, 105, 0, 16, 2},
		{[]int{100}, 100, 0, 1, 1}, {[]int{100}, 99, 0, 1, 1}, {[]int{100}, 0, 0, 1, 1}, {[]int{100}, 0, 99, 1, 1}, {[]int{100}, 0, 100, 1, 1}, {[]int{100}, 0, 101, 1, 7}, {[]int{100}, 99, 1, 1, 1}, {[]int{100}, 99, 2, 1, 7},
		{[]int{100, 2}, 105, 0, 1, 31}, {[]int{2, 100}, 105, 0, 1, 31}, {[]int{100, 102, 104}, 105, 0, 1, 19}, {[]int{104, 100, 102}, 105, 0, 1, 19}, {[]int{104, 2, 3}, 5, 0, 1, 13}, {[]int{2, 3, 104}, 5, 0, 2, 7},
		{[]int{110, 109, 108, 107, 106, 105, 104, 103, 102, 101, 100}, 110, 0, 1, 31}, {[]int{110, 109, 108, 107, 106, 105, 104, 103, 102, 101, 100, 0, 0, 0, 0, 0}, 110, 0, 1, 31}, // eleven count
		{nil, 5, 0, 1, 31}, {nil, 0, 5, 2, 16}, {nil, 0, 0, 1, 1}, {nil, 0, 0, 3, 1},
	} {
		for _, offset := range []int{0, c.period - 1} {
			p := with(usual, func(p *api.Params) { p.Future, p.MinWork = c.future, whole.Most() })
			from := presync.Start{Spot: rule.Spot{Point: pace.Point{Height: 70, Bits: easiest, Hard: easiest}, Prev: api.Hash{7}, Times: c.times}}
			plan := pledge.Plan{Salt: i, Period: c.period, Offset: offset}
			s := made(t, p, from, plan, 4, c.now)
			bits := 0
			for n, h := range hasty(t, p, from.Spot, c.period*(c.want+1)) {
				if plan.Due(70 + n) {
					bits++
				}
				if bits > c.want {
					ends(t, s, late, true, api.ErrLong, h)
					break
				}
				may(t, s, true, []api.Header{h})
				if s.Bits() != bits {
					t.Fatalf("%d: %d bits, not %d", i, s.Bits(), bits)
				}
			}
			if bits != c.want+1 || s.Phase() != presync.Over {
				t.Errorf("%d: %d bits may be, not %d", i, s.Bits(), c.want)
			}
		}
	}
}

// That there are more bits than may be is asked behind what is wrong with the header, ahead of whether the work is enough, and of whether more may follow.
func TestP19_1TooManyBits(t *testing.T) {
	p := with(usual, func(p *api.Params) { p.Future = 0 })
	row := line(t, p, rule.Begin(p), 14, 10, 0)
	plan := pledge.Plan{Period: 1} // a second has six
	for seconds := range 4 {
		most := 6*seconds + 1
		for least := range 14 {
			p.MinWork = api.Num{2 + 2*uint64(least+1)} // by the one at least
			for _, more := range []bool{false, true} {
				s := made(t, p, genesis(p), plan, 64, 50+seconds)
				switch {
				case least >= most: // it would be too many ahead of that, or by it
					may(t, s, true, row[:most])
					is(t, s, presync.First, header.Id(row[most-1]), most, 0)
					bad := row[most]
					bad.Version = 1 << 31
					ends(t, s, late, more, api.ErrLong, row[most:]...)
					s = made(t, p, genesis(p), plan, 64, 50+seconds)
					ends(t, s, late, more, api.ErrLong, row[:most+1]...)
					s = made(t, p, genesis(p), plan, 64, 50+seconds)
					ends(t, s, late, more, api.ErrRule, append(slices.Clone(row[:most]), bad)...)
				default:
					may(t, s, more, row)
					is(t, s, presync.Again, row[0].Prev, least+1, 0)
					may(t, s, more, row, row...)
				}
			}
		}
	}
}

// What comes first in the message tells the error: nothing is taken behind that.
func TestP19_1FirstOfAMessage(t *testing.T) {
	p := with(usual, func(p *api.Params) { p.Future, p.MinWork = 0, whole.Most() })
	row := line(t, p, rule.Begin(p), 9, 10, 0)
	bad := row[8]
	bad.Version = 1 << 31
	s := made(t, p, genesis(p), pledge.Plan{Period: 1}, 64, 51) // seven may be
	ends(t, s, late, true, api.ErrLong, append(slices.Clone(row[:8]), bad)...)
	s = made(t, p, genesis(p), pledge.Plan{Period: 1}, 64, 51)
	ends(t, s, late, true, api.ErrRule, append(append(slices.Clone(row[:7]), bad), row[7])...)
}

func TestP19_1NoMoreMayFollow(t *testing.T) {
	row := line(t, usual, rule.Begin(usual), 14, 10, 0)
	for ahead := range 10 {
		for n := range 10 - ahead {
			s := made(t, usual, genesis(usual), everySecond, 3, late)
			may(t, s, true, row[:ahead])
			ends(t, s, late, false, api.ErrNone, row[ahead:ahead+n]...) // nine aren't enough
			s = made(t, usual, genesis(usual), everySecond, 3, late)
			may(t, s, false, row)
			may(t, s, true, row[:ahead], row[:max(0, ahead-3)]...)
			ends(t, s, late, false, api.ErrNone, row[ahead:ahead+n]...)
		}
		s := made(t, usual, genesis(usual), everySecond, 3, late)
		may(t, s, true, row[:ahead])
		may(t, s, false, row[ahead:10])
		may(t, s, true, row[:ahead], row[:max(0, ahead-3)]...)
		may(t, s, false, row[ahead:10], row[max(0, ahead-3):10]...)
		is(t, s, presync.Done, header.Id(row[9]), 5, 0)
	}
	for _, more := range []bool{false, true} { // that a header is wrong is asked ahead of it
		s := made(t, usual, genesis(usual), everySecond, 3, late)
		ends(t, s, late, more, api.ErrRule, row[0], row[2])
	}
}

// other: a header Fine at a spot, unlike one, whose name has a bit of a plan.
func other(t testing.TB, p api.Params, at rule.Spot, h api.Header, plan pledge.Plan, bit bool) api.Header {
	t.Helper()
	for root := 1; root < 1000; root++ {
		x := next(t, p, at, h.Time, root)
		if plan.Bit(header.Id(x)) == bit && x != h {
			return x
		}
	}
	t.Fatal("no other one")
	return h
}

// Another chain is told the second time: it is known by its bits alone, up to the one by which there is work enough.
func TestP19_1AnotherChain(t *testing.T) {
	for _, plan := range []pledge.Plan{everySecond, planOf(8, 1, 0), planOf(9, 3, 2), planOf(-7, 4, 1), planOf(1, 64, 10), planOf(1, 64, 40)} {
		row := line(t, usual, rule.Begin(usual), 14, 10, 0)
		for fork := range row {
			at := behind(usual, rule.Begin(usual), row[:fork]...)
			for _, same := range []bool{false, true} {
				side := slices.Clone(row[:fork])
				spot := at
				for i, h := range row[fork:] { // all bits but that of the first one are those of the row
					x := other(t, usual, spot, h, plan, plan.Bit(header.Id(h)) == (same || i > 0))
					side = append(side, x)
					spot = rule.Behind(usual, spot, x)
				}
				for _, cut := range []int{1, 3, 14} {
					anotherChain(t, plan, row, side, cut, same || fork >= 10 || !plan.Due(fork+1), fork)
				}
			}
		}
	}
}

// anotherChain: it is told in pieces behind a row, and let, or not, from the header at fork on.
func anotherChain(t testing.TB, plan pledge.Plan, row, side []api.Header, cut int, let bool, fork int) {
	t.Helper()
	s := made(t, usual, genesis(usual), plan, 4, late)
	may(t, s, true, row)
	n := 0
	chunks(side, cut, func(piece []api.Header, more bool) {
		from, to := max(0, n-4), max(0, n+len(piece)-4)
		switch n += len(piece); {
		case s.Phase() != presync.Again:
			return
		case !let && n > fork:
			ends(t, s, late, true, api.ErrRule, piece...)
		case n >= 10:
			may(t, s, true, piece, side[from:n]...)
		default:
			may(t, s, true, piece, side[from:to]...)
		}
	})
	if (s.Phase() == presync.Done) != let {
		t.Fatalf("%+v: phase %d, of another one from %d on", plan, s.Phase(), fork)
	}
}

// A chain of more, lighter headers has no bits left for the last of them; one of fewer, heavier ones needs not all bits.
func TestP19_1OtherWork(t *testing.T) {
	p := api.Params{Limit: easiest, Interval: 2, Spacing: 10, Future: 1000, Genesis: api.Header{Version: 1, Time: 50, Bits: easiest}}
	light := line(t, p, rule.Begin(p), 30, 30, 0)
	var plan pledge.Plan
	heavy := line(t, p, rule.Begin(p), 4, 5, 0) // 2, 8, 8 and 32 tries
	for i := range light {
		if light[i].Bits != easiest {
			t.Fatalf("%x", light[i].Bits)
		}
	}
	p.MinWork = api.Num{52}
	find := func(of, by []api.Header, bits int) bool { // a salt by which as many bits are the same
		for plan = (pledge.Plan{Period: 1}); plan.Salt < 1<<16; plan.Salt++ {
			same := 0
			for same < bits && plan.Bit(header.Id(of[same])) == plan.Bit(header.Id(by[same])) {
				same++
			}
			if same == bits {
				return true
			}
		}
		return false
	}
	if !find(heavy, light, 4) {
		t.Fatal("no salt")
	}
	s := made(t, p, genesis(p), plan, 64, late)
	may(t, s, true, heavy)
	is(t, s, presync.Again, heavy[0].Prev, 4, 0)
	may(t, s, true, light[:4])
	is(t, s, presync.Again, header.Id(light[3]), 4, 4)
	ends(t, s, late, true, api.ErrRule, light[4]) // no bit is left
	s = made(t, p, genesis(p), plan, 64, late)
	may(t, s, true, light)
	is(t, s, presync.Again, heavy[0].Prev, 25, 0)
	may(t, s, false, heavy, heavy...)
	is(t, s, presync.Done, header.Id(heavy[3]), 25, 0)
}

// Heights are the start's: there are no bits below 0, and behind the greatest number they go round.
func TestP19_1Heights(t *testing.T) {
	for _, c := range []struct {
		height, period, offset int
		want                   []int // bits by headers
	}{
		{-3, 1, 0, []int{0, 0, 0, 1, 2, 3}}, {-3, 2, 1, []int{0, 0, 0, 0, 1, 1}}, {10, 4, 1, []int{0, 0, 0, 1, 1, 1}}, {13, 4, 1, []int{1, 1, 1, 1, 2, 2}}, {63, 64, 0, []int{0, 1, 1, 1, 1, 1}},
		{math.MaxInt - 1, 1, 0, []int{1, 2, 2, 2, 2, 2}}, {math.MinInt, 1, 0, []int{0, 0, 0, 0, 0, 0}}, {0, 3, 0, []int{1, 1, 1, 2, 2, 2}},
	} {
		from := presync.Start{Spot: rule.Spot{Point: pace.Point{Height: c.height, Bits: easiest, Hard: easiest, Time: 900, First: 50}, Prev: api.Hash{3}, Times: []int{900, 800}}}
		p := with(usual, func(p *api.Params) { p.MinWork = api.Num{12} })
		row := line(t, p, from.Spot, 6, 20, 0)
		s := made(t, p, from, pledge.Plan{Salt: 2, Period: c.period, Offset: c.offset}, 2, late)
		for i := range row[:5] {
			may(t, s, true, row[i:i+1])
			is(t, s, presync.First, header.Id(row[i]), c.want[i], 0)
		}
		may(t, s, false, row[5:])
		is(t, s, presync.Again, api.Hash{3}, c.want[5], 0)
		may(t, s, false, row, row...)
	}
}

func TestP19_1ErrArgLeavesAllAsItWas(t *testing.T) {
	p := with(usual, func(p *api.Params) { p.MinWork = api.Num{2 + 2*70} })
	row := line(t, p, rule.Begin(p), 140, 11, 0)
	s := made(t, p, genesis(p), everySecond, 3, late)
	refused := func() {
		t.Helper()
		phase, ask, bits, held := s.Phase(), s.Ask(), s.Bits(), s.Held()
		for _, more := range []bool{false, true} {
			for _, now := range []int{math.MinInt, -1, 1<<32 + 1, math.MaxInt} {
				if out, e := s.Feed(now, more, row[0]); e != api.ErrArg || len(out) != 0 {
					t.Fatalf("%d: %d", now, e)
				}
			}
			for _, n := range []int{65, 66, 128, 140} {
				if out, e := s.Feed(late, more, row[:n]...); e != api.ErrArg || len(out) != 0 {
					t.Fatalf("%d headers: %d", n, e)
				}
			}
			is(t, s, phase, ask, bits, held)
		}
	}
	refused()
	may(t, s, true, row[:64])
	is(t, s, presync.First, header.Id(row[63]), 32, 0)
	refused()
	may(t, s, true, row[64:70])
	is(t, s, presync.Again, row[0].Prev, 35, 0)
	refused()
	may(t, s, true, row[:64], row[:61]...)
	refused()
	may(t, s, true, row[64:128], row[61:128]...)
	is(t, s, presync.Done, header.Id(row[127]), 35, 0)
	down(t, s, presync.Done, row...)
}

func TestP19_1Nil(t *testing.T) {
	var s *presync.Sync
	row := line(t, usual, rule.Begin(usual), 2, 10, 0)
	for _, now := range []int{-1, 0, late, 1<<32 + 1} {
		for _, more := range []bool{false, true} {
			for _, list := range [][]api.Header{nil, row, make([]api.Header, 65)} {
				if out, e := s.Feed(now, more, list...); e != api.ErrNil || len(out) != 0 {
					t.Errorf("%d, %d headers: %d", now, len(list), e)
				}
			}
		}
	}
	is(t, s, presync.Over, api.Hash{}, 0, 0)
}

// What is handed in stays the caller's.
func TestP19_1WhatIsHandedInIsntKept(t *testing.T) {
	for n := range 10 { // behind so many headers of either phase all is written into
		p := with(usual, func(p *api.Params) {
			p.Gates, p.Checks = []api.Gate{{Height: 0, Version: 1}, {Height: 5, Version: 1}}, []api.Check{{Height: 1}, {Height: 8}}
		})
		bare := with(p, func(p *api.Params) { p.Checks = nil })
		from := genesis(p)
		from.Times = append(make([]int, 0, 40), 50, 40, 30, 20)
		row := line(t, bare, from.Spot, 14, 10, 0)
		p.Checks[0].Id, p.Checks[1].Id = header.Id(row[0]), header.Id(row[7])
		write := func() {
			for i := range p.Gates {
				p.Gates[i].Version = 9
				p.Checks[i].Id[3]++
			}
			for i := range from.Times[:cap(from.Times)] {
				from.Times[:cap(from.Times)][i] = 1 << 31
			}
		}
		s, other := made(t, p, from, everySecond, 3, late), made(t, p, from, everySecond, 3, late)
		if len(p.Gates) != 2 || p.Gates[1].Version != 1 || p.Checks[1].Id != header.Id(row[7]) || !slices.Equal(from.Times[:40], append([]int{50, 40, 30, 20}, make([]int, 36)...)) {
			t.Fatal("what was handed in is another one")
		}
		may(t, s, true, row[:n])
		may(t, other, true, row)
		may(t, other, true, row[:n], row[:max(0, n-3)]...)
		write()
		may(t, s, false, row[n:])
		may(t, s, false, row, row...)
		may(t, other, false, row[n:], row[max(0, n-3):]...)
	}
}

// The headers of a message, and what is told, are nobody's but the caller's.
func TestP19_1ListsAreNew(t *testing.T) {
	row := line(t, usual, rule.Begin(usual), 14, 10, 0)
	spoil := func(list []api.Header) {
		for i := range list[:cap(list)] {
			list[:cap(list)][i] = api.Header{Nonce: 99}
		}
	}
	for size := 1; size <= 15; size++ {
		for cut := 1; cut <= 14; cut++ {
			s := made(t, usual, genesis(usual), everySecond, size, late)
			feed := func(piece []api.Header) (told []api.Header) {
				message := append(make([]api.Header, 0, 30), piece...)
				before := slices.Clone(message[:30])
				out, e := s.Feed(late, true, message...)
				if e != api.OK || !slices.Equal(message[:30], before) {
					t.Fatalf("%d, of %d and %d", e, size, cut)
				}
				told = slices.Clone(out)
				spoil(message)
				if !slices.Equal(out, told) {
					t.Fatalf("of %d and %d, what is told is what was handed in", size, cut)
				}
				spoil(out)
				return told
			}
			if len(feed(row)) != 0 {
				t.Fatal("something may be stored")
			}
			var all []api.Header
			chunks(row, cut, func(piece []api.Header, more bool) {
				if s.Phase() == presync.Again {
					all = append(all, feed(piece)...)
				}
			})
			if s.Phase() != presync.Done || len(all) < 10 || !slices.Equal(all, row[:len(all)]) {
				t.Fatalf("phase %d, %d headers, of %d and %d", s.Phase(), len(all), size, cut)
			}
		}
	}
}

// model is what a chain that is looked at should be: it keeps all headers of a phase, and reckons all anew from them.
type model struct {
	p     api.Params
	from  presync.Start
	plan  pledge.Plan
	size  int
	most  int
	phase int
	first []api.Header // of the first phase
	row   []api.Header // of this one
	told  int          // how many of these may be stored
}

// wantBit: a name's bit, by Go's own SHA-256.
func wantBit(p pledge.Plan, id api.Hash) bool {
	inner := sha256.Sum256(append(binary.LittleEndian.AppendUint64(nil, uint64(p.Salt)), id[:]...))
	return sha256.Sum256(inner[:])[0]%2 == 1
}

// bits: those of headers from the start on.
func (m *model) bits(list []api.Header) []bool {
	var out []bool
	for i, h := range list {
		if height := m.from.Height + i; height >= 0 && height%m.plan.Period == m.plan.Offset {
			out = append(out, wantBit(m.plan, header.Id(h)))
		}
	}
	return out
}

// number: one of 256 bits without bounds.
func number(n api.Num) *big.Int {
	out := new(big.Int)
	for i := range n {
		out.Add(out.Lsh(out, 64), new(big.Int).SetUint64(n[3-i]))
	}
	return out
}

// enough: whether all work up to the last header isn't below MinWork.
func (m *model) enough() bool {
	all := number(m.from.Work)
	for _, h := range m.row {
		target := big.NewInt(int64(h.Bits & 0x7fffff))
		target.Rsh(target.Lsh(target, uint(8*(h.Bits>>24))), 24)
		one := big.NewInt(1)
		all.Add(all, one.Div(one.Lsh(one, 256), target.Add(target, big.NewInt(1))))
	}
	return all.Cmp(number(m.p.MinWork)) >= 0
}

// one: a header comes; what is wrong with it.
func (m *model) one(now int, h api.Header) api.Errno {
	if rule.Check(m.p, behind(m.p, m.from.Spot, m.row...), h, now) != rule.Fine {
		return api.ErrRule
	}
	m.row = append(m.row, h)
	bits := m.bits(m.row)
	if m.phase == presync.First && len(bits) > m.most {
		return api.ErrLong
	}
	if given := m.bits(m.first); m.phase == presync.Again && (len(bits) > len(given) || !slices.Equal(bits, given[:len(bits)])) {
		return api.ErrRule
	}
	if m.phase != presync.Done && m.enough() {
		m.phase++
	}
	return api.OK
}

// all: the headers of a message come, up to the first one that isn't right.
func (m *model) all(now int, more bool, list []api.Header) api.Errno {
	was := m.phase
	for _, h := range list {
		if e := m.one(now, h); e != api.OK {
			return e
		}
		if was == presync.First && m.phase == presync.Again {
			m.first, m.row = m.row, nil
			return api.OK
		}
	}
	if !more && m.phase == was {
		return api.ErrNone
	}
	return api.OK
}

// feed: as Feed.
func (m *model) feed(now int, more bool, list []api.Header) ([]api.Header, api.Errno) {
	if m.phase == presync.Over || m.phase == presync.Done {
		return nil, api.ErrDown
	}
	if now < 0 || now > 1<<32 || len(list) > 64 {
		return nil, api.ErrArg
	}
	if e := m.all(now, more, list); e != api.OK {
		m.phase = presync.Over
		return nil, e
	}
	told := m.told
	switch m.phase {
	case presync.Again:
		m.told = max(0, len(m.row)-m.size)
	case presync.Done:
		m.told = len(m.row)
	}
	return m.row[told:m.told], api.OK
}

// ask: as Ask, but of one that is Over.
func (m *model) ask() api.Hash {
	if len(m.row) == 0 {
		return m.from.Prev
	}
	return header.Id(m.row[len(m.row)-1])
}

// counts: how many bits, and how many headers are held.
func (m *model) counts() (int, int) {
	if m.phase == presync.First {
		return len(m.bits(m.row)), 0
	}
	return len(m.bits(m.first)), len(m.row) - m.told
}

// scene is a start, a row of headers behind it, and a side row that leaves that somewhere.
type scene struct {
	p    api.Params
	from presync.Start
	row  []api.Header
	side []api.Header
}

// uneven: so many headers from a spot on, in any pace, but never far harder than the limit.
func uneven(t testing.TB, r *rand.Rand, p api.Params, at rule.Spot, count int) []api.Header {
	t.Helper()
	var out []api.Header
	for range count {
		step := 1 + r.Intn(25)
		if at.Bits < 0x2003ffff {
			step = 40
		}
		h := next(t, p, at, at.Time+step, r.Int())
		out = append(out, h)
		at = rule.Behind(p, at, h)
	}
	return out
}

// anyScene: one at random.
func anyScene(t testing.TB, r *rand.Rand) scene {
	t.Helper()
	p := api.Params{Limit: easiest, Interval: []int{2, 3, 4, 64}[r.Intn(4)], Spacing: 10, Future: r.Intn(200), Easy: r.Intn(2) == 0, Genesis: api.Header{Version: 1, Time: 50, Bits: easiest}}
	p.Gates = []api.Gate{{Height: r.Intn(30), Version: r.Intn(2)}}
	stem := uneven(t, r, p, rule.Begin(p), r.Intn(20))
	from := presync.Start{Spot: behind(p, rule.Begin(p), stem...), Work: api.Num{2}}
	for _, h := range stem {
		from.Work = work.Sum(from.Work, work.OfBits(h.Bits))
	}
	row := uneven(t, r, p, from.Spot, 50)
	fork := r.Intn(40)
	side := append(slices.Clone(row[:fork]), uneven(t, r, p, behind(p, from.Spot, row[:fork]...), 50-fork)...)
	p.MinWork = from.Work
	for _, h := range row[:r.Intn(48)] {
		p.MinWork = work.Sum(p.MinWork, work.OfBits(h.Bits))
	}
	p.MinWork[0] += uint64(r.Intn(3)) - 1
	return scene{p, from, row, side}
}

// message: one at random: what comes next, of a row or of the other, or something else.
func (c scene) message(r *rand.Rand, at int) []api.Header {
	row := c.row
	if r.Intn(8) == 0 {
		row = c.side
	}
	from := min(at, len(row))
	if r.Intn(40) == 0 {
		from = r.Intn(len(row))
	}
	out := slices.Clone(row[from:min(len(row), from+r.Intn(14))])
	if r.Intn(40) == 0 {
		out = append(out, make([]api.Header, 65)...)
	}
	if len(out) > 0 && r.Intn(25) == 0 {
		i, j := r.Intn(len(out)), r.Intn(len(out))
		switch r.Intn(4) {
		case 0:
			out[i].Nonce++
		case 1:
			out[i].Version = r.Intn(2) - 1
		case 2:
			out[i], out[j] = out[j], out[i]
		case 3:
			out = append(out[:i], out[i+1:]...)
		}
	}
	return out
}

// clock: one at random, seldom too early, or none.
func (c scene) clock(r *rand.Rand) int {
	switch r.Intn(40) {
	case 0:
		return r.Intn(600)
	case 1:
		return -1 - r.Intn(5)
	case 2:
		return 1<<32 + 1 + r.Intn(5)
	}
	return late + r.Intn(100)
}

// run: a chain that is looked at, and its model.
type run struct {
	scene
	s     *presync.Sync
	m     *model
	told  []api.Header // what may be stored, of all messages
	spots []int        // by how many messages each phase was reached
}

// anyRun: one at random.
func anyRun(t testing.TB, r *rand.Rand) *run {
	t.Helper()
	c := anyScene(t, r)
	period := 1 + r.Intn([]int{2, 8, 64}[r.Intn(3)])
	plan := pledge.Plan{Salt: int(r.Uint64()), Period: period, Offset: r.Intn(period)}
	size := 1 + r.Intn([]int{4, 20, 64}[r.Intn(3)])
	times := slices.Sorted(slices.Values(c.from.Times))
	mid, now := times[len(times)/2], late
	if r.Intn(3) == 0 {
		now = max(0, mid+r.Intn(8)-2-c.p.Future)
	}
	most := 6*max(0, now-mid+c.p.Future)/period + 1
	return &run{scene: c, s: made(t, c.p, c.from, plan, size, now), m: &model{p: c.p, from: c.from, plan: plan, size: size, most: most, phase: presync.First}}
}

// step: a message comes to both, which must answer alike; the error.
func (x *run) step(t testing.TB, r *rand.Rand) api.Errno {
	t.Helper()
	now, more, list := x.clock(r), r.Intn(12) > 0, x.message(r, len(x.m.row))
	got, e := x.s.Feed(now, more, slices.Clone(list)...)
	want, f := x.m.feed(now, more, list)
	if e != f || !slices.Equal(got, want) {
		t.Fatalf("%d, %d headers, not %d, %d", e, len(got), f, len(want))
	}
	x.told = append(x.told, got...)
	if x.m.phase != presync.Over {
		bits, held := x.m.counts()
		is(t, x.s, x.m.phase, x.m.ask(), bits, held)
	} else if x.s.Phase() != presync.Over {
		t.Fatalf("phase %d", x.s.Phase())
	}
	return e
}

func TestP19_1AnyOrder(t *testing.T) {
	r := rand.New(rand.NewSource(19))
	ends := map[api.Errno]int{}
	done := 0
	for range 200 {
		x, y := anyRun(t, r), anyRun(t, r) // two know nothing of one another
		for range 30 {
			for _, z := range []*run{x, y} {
				before := z.m.phase
				e := z.step(t, r)
				if z.m.phase == presync.Done && before != z.m.phase {
					done++
				}
				if e != api.ErrDown {
					ends[e]++
				}
			}
		}
	}
	for _, e := range []api.Errno{api.ErrArg, api.ErrRule, api.ErrLong, api.ErrNone} {
		if ends[e] < 10 {
			t.Errorf("just %d of %d", ends[e], e)
		}
	}
	if done < 30 {
		t.Errorf("just %d are done", done)
	}
}

// What may be stored hangs on the start, in order, each once, each Fine; there is nothing in the first phase.
func TestP19_2WhatMayBeStored(t *testing.T) {
	r := rand.New(rand.NewSource(192))
	some, none := 0, 0
	for range 300 {
		x := anyRun(t, r)
		again := false
		for range 30 {
			before := len(x.told)
			x.step(t, r)
			if !again && len(x.told) > 0 || x.s.Phase() == presync.Over && len(x.told) > before {
				t.Fatalf("%d headers may be stored", len(x.told))
			}
			again = again || x.s.Phase() == presync.Again
		}
		at := x.from.Spot
		seen := map[api.Hash]bool{}
		for i, h := range x.told {
			id := header.Id(h)
			if why := rule.Check(x.p, at, h, late+100); why != rule.Fine || seen[id] {
				t.Fatalf("%d: %d", i, why)
			}
			seen[id] = true
			at = rule.Behind(x.p, at, h)
		}
		if len(x.told) > 0 {
			some++
		} else {
			none++
		}
	}
	if some < 30 || none < 30 {
		t.Errorf("%d, %d", some, none)
	}
}

// Of a chain that never has work enough nothing may be stored, however it is told.
func TestP19_2TooLittleWork(t *testing.T) {
	r := rand.New(rand.NewSource(1920))
	for range 60 {
		c := anyScene(t, r)
		c.p.MinWork = c.from.Work
		for _, h := range c.row {
			c.p.MinWork = work.Sum(c.p.MinWork, work.OfBits(h.Bits))
		}
		c.p.MinWork, _ = whole.Add(c.p.MinWork, whole.Of(1))
		s := made(t, c.p, c.from, pledge.Plan{Salt: r.Int(), Period: 3}, 1+r.Intn(64), late)
		chunks(c.row, 1+r.Intn(50), func(piece []api.Header, more bool) {
			if !more {
				ends(t, s, late, false, api.ErrNone, piece...)
				return
			}
			may(t, s, true, piece)
		})
		s = made(t, c.p, c.from, pledge.Plan{Salt: r.Int(), Period: 3}, 1+r.Intn(64), late)
		may(t, s, true, c.row)
		ends(t, s, late, true, api.ErrRule, c.row...) // told once more it doesn't hang on itself
	}
}

// Whatever comes, at every time there are at most as many bits as may be, and one more, and as many headers as the buffer's size.
func TestP19_3Counts(t *testing.T) {
	r := rand.New(rand.NewSource(193))
	full, long := 0, 0
	for range 300 {
		x := anyRun(t, r)
		for range 30 {
			e := x.step(t, r)
			if x.s.Bits() > x.m.most+1 || x.s.Held() > x.m.size || x.s.Bits() < 0 || x.s.Held() < 0 {
				t.Fatalf("%d bits of %d, %d headers of %d", x.s.Bits(), x.m.most, x.s.Held(), x.m.size)
			}
			if x.s.Held() == x.m.size {
				full++
			}
			if e == api.ErrLong {
				long++
			}
		}
	}
	if full < 30 || long < 10 {
		t.Errorf("%d, %d", full, long)
	}
}

// heap: how many bytes are held.
func heap() int {
	runtime.GC()
	runtime.GC()
	var m runtime.MemStats
	runtime.ReadMemStats(&m)
	return int(m.HeapAlloc)
}

// room: how many bytes a chain that is looked at holds at most, told so twice, but for the last header the second time.
func room(t testing.TB, p api.Params, row []api.Header, size int) int {
	t.Helper()
	before := heap()
	s := made(t, p, genesis(p), planOf(7, 8, 0), size, late)
	most, count, told := 0, 0, 0
	feed := func(piece []api.Header, more bool) {
		out, e := s.Feed(late, true, piece...)
		if e != api.OK {
			t.Fatalf("%d", e)
		}
		told += len(out)
		out = nil
		if count++; count%8 == 0 || !more {
			most = max(most, heap()-before)
		}
	}
	chunks(row, api.MaxHeaders, feed)
	is(t, s, presync.Again, header.Id(p.Genesis), len(row)/8, 0)
	chunks(row[:len(row)-1], api.MaxHeaders, feed)
	is(t, s, presync.Again, header.Id(row[len(row)-2]), len(row)/8, size)
	if told != len(row)-1-size {
		t.Fatalf("%d headers", told)
	}
	return most
}

// Of thousands of headers just the buffer's and the bits are held, and some words.
func TestP19_3Room(t *testing.T) {
	const count = 4000
	p := with(usual, func(p *api.Params) { p.MinWork = api.Num{2 + 2*count} })
	row := line(t, p, rule.Begin(p), count, 11, 0)
	for _, size := range []int{1, 16, 64} {
		may := 100*size + 8192 // memory comes in whole pages
		least := math.MaxInt
		for try := 0; try < 5 && least > may; try++ { // what else goes on holds memory too, now and then
			least = min(least, room(t, p, row, size))
		}
		if least > may {
			t.Errorf("%d: %d bytes, not %d", size, least, may)
		}
	}
	runtime.KeepAlive(row)
}
