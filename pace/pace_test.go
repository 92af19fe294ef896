package pace_test

import (
	"math"
	"math/big"
	"math/rand"
	"slices"
	"testing"

	"trailhead/api"
	"trailhead/compact"
	"trailhead/pace"
	"trailhead/whole"
)

// usual are rules that can be; a period should take 40 seconds.
var usual = api.Params{Limit: 0x207fffff, Interval: 4, Spacing: 10, Future: 100}

// edges are numbers about what an int holds, about what is in short, and about nought.
var edges = []int{
	math.MinInt, math.MinInt + 1, math.MinInt / 2, -1 << 32, -5, -2, -1, 0, 1, 2, 3, 4, 5, 1000, math.MaxInt32, math.MaxUint32, 1 << 32,
	math.MaxInt / 2, math.MaxInt/2 + 1, math.MaxInt - 1, math.MaxInt,
}

// limits are targets by themselves, some of them not in short as Encode has them.
var limits = []int{
	0x207fffff, 0x1d00ffff, 0x2100ffff, 0x2100fffe, 0x220000ff, 0x22000001, 0x2000ffff, 0x207ffffe, 0x1b0404cb,
	0x01010000, 0x03000001, 0x02000100, 0x01017fff, 0x03000002, 0x03000003, 0x0300ffff, 0x037fffff, 0x04001234, 0x05001234, 0x04123456, 0x10000012,
}

// noTargets are no targets by themselves: 0, below 0, too great, or not in short at all.
var noTargets = []int{
	0, 0x1d000000, 0x0100ffff, 0x007fffff, 0x02000012, 0x23000000, 0xff000000, 0x1d800000,
	0x1d80ffff, 0x04923456, 0x01810000, 0x00800001, 0xffffffff, 0x217fffff, 0x21010000, 0x22000100, 0x22000101, 0x23000001, 0xff7fffff,
	-1, -0x1d00ffff, math.MinInt, 1 << 32, 1<<32 + 0x1d00ffff, math.MaxInt,
}

// plans are how many blocks a period has, and how many seconds are between two.
var plans = [][2]int{{2, 1}, {3, 1}, {2, 2}, {5, 1}, {7, 1}, {4, 10}, {3, 7}, {64, 1}, {2, 10000}, {64, 10000}, {63, 9999}}

// rules: each limit with each plan.
func rules() []api.Params {
	var out []api.Params
	for _, limit := range limits {
		for _, plan := range plans {
			out = append(out, api.Params{Limit: limit, Interval: plan[0], Spacing: plan[1], Future: 7200})
		}
	}
	return out
}

// badRules are rules that can't be, each by one thing.
func badRules() []api.Params {
	var out []api.Params
	add := func(change func(p *api.Params)) {
		p := usual
		change(&p)
		out = append(out, p)
	}
	for _, limit := range noTargets {
		add(func(p *api.Params) { p.Limit = limit })
	}
	for _, interval := range []int{math.MinInt, -64, -2, -1, 0, 1, 65, 66, 1 << 32, 1<<32 + 4, math.MaxInt} {
		add(func(p *api.Params) { p.Interval = interval })
	}
	for _, spacing := range []int{math.MinInt, -10000, -1, 0, 10001, 1 << 32, 1<<32 + 10, math.MaxInt} {
		add(func(p *api.Params) { p.Spacing = spacing })
	}
	for _, future := range []int{math.MinInt, -1 << 32, -2, -1, 1 << 32, 1<<32 + 1, math.MaxInt} {
		add(func(p *api.Params) { p.Future = future })
	}
	return append(out, api.Params{})
}

// shorts: targets in short about a limit, by sizes and words about the edges, and of many others, the same ones at each run.
func shorts(limit int) []int {
	out := []int{limit - 2, limit - 1, limit, limit + 1, limit + 2, limit - 1<<24, limit + 1<<24, limit - limit&0x7fffff/2}
	for _, size := range []int{0, 1, 2, 3, 4, 5, 8, 9, 16, 17, 29, 30, 31, 32, 33, 34, 35, 255} {
		for _, word := range []int{0, 1, 0x12, 0xff, 0x100, 0x7fff, 0xffff, 0x10000, 0x123456, 0x7fffff, 0x800001, 0xffffff} {
			out = append(out, size<<24|word)
		}
	}
	r := rand.New(rand.NewSource(1))
	for range 30 {
		out = append(out, r.Intn(34)<<24|r.Intn(1<<23))
	}
	return append(out, noTargets...)
}

// tooks: how long a period took, about where its length begins and ceases to count, and far beyond, the shortest first.
func tooks(should int) []int {
	out := []int{math.MinInt, math.MinInt + 1, -1 << 40, -should, math.MaxInt32, math.MaxUint32, math.MaxInt - 1, math.MaxInt}
	for _, about := range []int{0, should / 4, should / 3, should / 2, should, should * 2, should * 3, should * 4, should * 8} {
		for by := -2; by <= 2; by++ {
			out = append(out, about+by)
		}
	}
	slices.Sort(out)
	return slices.Compact(out)
}

// toBig: a number as one that has no bounds.
func toBig(a api.Num) *big.Int {
	out := new(big.Int)
	for i := 3; i >= 0; i-- {
		out.Lsh(out, 64)
		out.Or(out, new(big.Int).SetUint64(a[i]))
	}
	return out
}

// target: what is in short, as a number without bounds; false: it is none.
func target(bits int) (*big.Int, bool) {
	if bits < 0 || bits > math.MaxUint32 || bits&(1<<23) != 0 {
		return nil, false
	}
	n := big.NewInt(int64(bits & 0x7fffff))
	if n.Lsh(n, uint(8*(bits>>24))).Rsh(n, 24); n.Sign() == 0 || n.BitLen() > 256 {
		return nil, false
	}
	return n, true
}

// inShort: the three highest bytes of a number (two, where the first has its highest bit), and how many there are.
func inShort(n *big.Int) int {
	bytes := n.Bytes()
	if len(bytes) == 0 {
		return 0
	}
	if bytes[0] >= 0x80 {
		bytes = append([]byte{0}, bytes...)
	}
	word := append(slices.Clone(bytes), 0, 0)
	return len(bytes)<<24 | int(word[0])<<16 | int(word[1])<<8 | int(word[2])
}

// round: what 64 bits are left of a number without bounds.
func round(n *big.Int) *big.Int {
	low := new(big.Int).And(n, new(big.Int).SetUint64(math.MaxUint64))
	return big.NewInt(int64(low.Uint64()))
}

// took: from one time to another one, as 64 bits tell it.
func took(from, to int) *big.Int {
	return round(new(big.Int).Sub(big.NewInt(int64(to)), big.NewInt(int64(from))))
}

// wantRetarget: by numbers without bounds, of rules that can be.
func wantRetarget(p api.Params, bits, from, to int) int {
	n, ok := target(bits)
	if !ok {
		return p.Limit
	}
	should := int64(p.Interval) * int64(p.Spacing)
	length := took(from, to)
	if length.Cmp(big.NewInt(should/4)) < 0 {
		length.SetInt64(should / 4)
	}
	if length.Cmp(big.NewInt(4*should)) > 0 {
		length.SetInt64(4 * should)
	}
	n.Mul(n, length).Quo(n, big.NewInt(should))
	if limit, _ := target(p.Limit); n.Cmp(limit) > 0 {
		return p.Limit
	}
	if n.Sign() == 0 {
		n.SetInt64(1)
	}
	return inShort(n)
}

func TestP10_1Good(t *testing.T) {
	for _, p := range rules() {
		if !pace.Good(p) {
			t.Errorf("%+v can't be", p)
		}
	}
	for interval := 2; interval <= 64; interval++ {
		p := usual
		if p.Interval = interval; !pace.Good(p) {
			t.Errorf("an interval of %d can't be", interval)
		}
	}
	for _, spacing := range []int{1, 2, 600, 9999, 10000} {
		p := usual
		if p.Spacing = spacing; !pace.Good(p) {
			t.Errorf("a spacing of %d can't be", spacing)
		}
	}
	for _, future := range []int{0, 1, 7200, 1<<32 - 2, 1<<32 - 1} {
		p := usual
		if p.Future = future; !pace.Good(p) {
			t.Errorf("%d ahead can't be", future)
		}
	}
}

func TestP10_1GoodRefused(t *testing.T) {
	for _, p := range badRules() {
		if pace.Good(p) {
			t.Errorf("%+v can be", p)
		}
	}
}

func TestP10_1GoodOfEachLimit(t *testing.T) {
	for _, limit := range shorts(0x207fffff) {
		p := usual
		p.Limit = limit
		if _, want := target(limit); pace.Good(p) != want {
			t.Errorf("a limit of %x: %v", limit, !want)
		}
	}
}

func TestP10_1OtherRulesPlayNoPart(t *testing.T) {
	other := usual
	other.Gates = []api.Gate{{Height: -1, Version: 1 << 40}, {Height: -2}}
	other.Checks = []api.Check{{Height: -1}, {Height: -5}}
	other.MinWork, other.Margin = whole.Most(), whole.Most()
	other.Genesis = api.Header{Version: math.MaxInt, Time: -1, Bits: -1, Nonce: -1}
	at := pace.Point{Height: 8, Bits: 0x2007ffff, Time: 100, First: 20, Hard: 0x2006ffff}
	if !pace.Good(other) || pace.Retarget(other, 0x2007ffff, 0, 80) != 0x200ffffe || pace.Next(other, at, 0) != 0x200ffffe || !pace.Starts(other, 8) {
		t.Error("they do")
	}
	other.Easy = true // it does only between the periods' first blocks
	if !pace.Good(other) || pace.Retarget(other, 0x2007ffff, 0, 80) != 0x200ffffe || pace.Next(other, at, 1000) != 0x200ffffe || !pace.Starts(other, 8) {
		t.Error("Easy does")
	}
}

func TestP10_1RetargetByHand(t *testing.T) {
	for _, c := range []struct {
		name                     string
		limit, interval, spacing int
		bits, took, want         int
	}{
		{"as long as it should", 0x207fffff, 4, 10, 0x2007ffff, 40, 0x2007ffff},
		{"double", 0x207fffff, 4, 10, 0x2007ffff, 80, 0x200ffffe},
		{"half", 0x207fffff, 4, 10, 0x2007ffff, 20, 0x2003ffff},
		{"a little longer", 0x207fffff, 4, 10, 0x2007ffff, 41, 0x20083332},
		{"a little shorter", 0x207fffff, 4, 10, 0x2007ffff, 39, 0x2007cccb},
		{"a quarter", 0x207fffff, 4, 10, 0x2007ffff, 10, 0x2001ffff},
		{"less than a quarter", 0x207fffff, 4, 10, 0x2007ffff, 9, 0x2001ffff},
		{"no time", 0x207fffff, 4, 10, 0x2007ffff, 0, 0x2001ffff},
		{"below no time", 0x207fffff, 4, 10, 0x2007ffff, -1, 0x2001ffff},
		{"more than a quarter", 0x207fffff, 4, 10, 0x2007ffff, 11, 0x20023332},
		{"four times", 0x207fffff, 4, 10, 0x2007ffff, 160, 0x201ffffc},
		{"more than four times", 0x207fffff, 4, 10, 0x2007ffff, 161, 0x201ffffc},
		{"less than four times", 0x207fffff, 4, 10, 0x2007ffff, 159, 0x201fccc8},
		{"a quarter, rounded down", 0x207fffff, 7, 1, 0x03700000, 1, 0x03100000},
		{"a quarter, rounded down to nought, and so 1 at least", 0x207fffff, 3, 1, 0x207fffff, 0, 0x01010000},
		{"a quarter that is nought", 0x207fffff, 2, 1, 0x207fffff, -7, 0x01010000},
		{"one of two", 0x207fffff, 2, 1, 0x20400000, 1, 0x20200000},
		{"1 in half", 0x207fffff, 4, 10, 0x03000001, 20, 0x01010000},
		{"1, told in short in another way", 0x207fffff, 4, 10, 0x03000001, 40, 0x01010000},
		{"3 in half", 0x207fffff, 4, 10, 0x03000003, 20, 0x01010000},
		{"just the limit", 0x207fffff, 4, 10, 0x207fffff, 40, 0x207fffff},
		{"just the limit, from below", 0x2007fffe, 4, 10, 0x2003ffff, 80, 0x2007fffe},
		{"above the limit by the last place", 0x2007fffd, 4, 10, 0x2003ffff, 80, 0x2007fffd},
		{"below the limit by the last place", 0x2007ffff, 4, 10, 0x2003ffff, 80, 0x2007fffe},
		{"above the limit", 0x207fffff, 4, 10, 0x207fffff, 80, 0x207fffff},
		{"above the limit, which stands as it is told", 0x03000001, 4, 10, 0x03000001, 80, 0x03000001},
		{"just the limit, as Encode has it", 0x03000001, 4, 10, 0x03000001, 40, 0x01010000},
		{"easier than the limit ahead, not any more", 0x1d00ffff, 4, 10, 0x1d01fffe, 10, 0x1c7fff80},
		{"easier than the limit ahead, still", 0x1d00ffff, 4, 10, 0x1d7fffff, 10, 0x1d00ffff},
		{"easier than the limit ahead, as long as it should", 0x1d00ffff, 4, 10, 0x1d010000, 40, 0x1d00ffff},
		{"without room ahead of being divided", 0x2100ffff, 64, 10000, 0x2100ffff, 640000, 0x2100ffff},
		{"without room, halved", 0x2100ffff, 64, 10000, 0x2100fffe, 320000, 0x207fff00},
		{"without room, four times", 0x2100ffff, 64, 10000, 0x203fff00, 2560000, 0x2100fffc},
		{"without room at all", 0x207fffff, 4, 10, 0x2100ffff, 160, 0x207fffff},
		{"without room at all, by the greatest limit", 0x2100ffff, 4, 10, 0x20400000, 160, 0x2100ffff},
		{"the mark of a sign ahead", 0x207fffff, 4, 10, 0x1d400000, 80, 0x1e008000},
		{"Bitcoin's first target, in less time", 0x1d00ffff, 64, 10000, 0x1d00ffff, 540000, 0x1d00d7ff},
	} {
		p := api.Params{Limit: c.limit, Interval: c.interval, Spacing: c.spacing, Future: 7200}
		for _, from := range []int{0, 100, -100, 1 << 32, math.MaxInt - 5, math.MinInt + 5} {
			if got := pace.Retarget(p, c.bits, from, from+c.took); got != c.want {
				t.Errorf("%s, from %d: %x, not %x", c.name, from, got, c.want)
			}
		}
	}
}

func TestP10_1RetargetOfEachTarget(t *testing.T) {
	for _, p := range rules() {
		for _, bits := range shorts(p.Limit) {
			for _, took := range tooks(p.Interval * p.Spacing) {
				if got, want := pace.Retarget(p, bits, 1000, 1000+took), wantRetarget(p, bits, 1000, 1000+took); got != want {
					t.Fatalf("%+v, %x, %d: %x, not %x", p, bits, took, got, want)
				}
			}
		}
	}
}

func TestP10_1RetargetOfAnyNumbers(t *testing.T) {
	r := rand.New(rand.NewSource(2))
	for range 50000 {
		p := api.Params{Limit: limits[r.Intn(len(limits))], Interval: 2 + r.Intn(63), Spacing: 1 + r.Intn(10000), Future: r.Intn(1 << 32)}
		bits := r.Intn(p.Limit + 1)
		from := int(r.Uint64())
		to := from + r.Intn(6*p.Interval*p.Spacing)
		if got, want := pace.Retarget(p, bits, from, to), wantRetarget(p, bits, from, to); got != want {
			t.Fatalf("%+v, %x, from %d to %d: %x, not %x", p, bits, from, to, got, want)
		}
	}
}

func TestP10_1RetargetAtAllTimes(t *testing.T) {
	for _, from := range edges {
		for _, to := range append([]int{from - 1, from + 1, from + 20, from + 40, from + 80}, edges...) {
			if got, want := pace.Retarget(usual, 0x2007ffff, from, to), wantRetarget(usual, 0x2007ffff, from, to); got != want {
				t.Errorf("from %d to %d: %x, not %x", from, to, got, want)
			}
		}
	}
	if got := pace.Retarget(usual, 0x2007ffff, math.MaxInt, math.MinInt+79); got != 0x200ffffe {
		t.Errorf("80 seconds that go round: %x", got)
	}
	if got := pace.Retarget(usual, 0x2007ffff, math.MinInt, math.MaxInt); got != 0x2001ffff {
		t.Errorf("as 64 bits tell it, a second back: %x", got)
	}
}

func TestP10_1RetargetOfRulesThatCantBe(t *testing.T) {
	for _, p := range badRules() {
		for _, bits := range []int{0x1d00ffff, 0x207fffff, 0x03000001, 0, -1, 0x04923456, 1 << 32, p.Limit} {
			for _, to := range []int{math.MinInt, 0, 10, 40, 160, math.MaxInt} {
				if got := pace.Retarget(p, bits, 0, to); got != p.Limit {
					t.Errorf("%+v, %x, %d: %x", p, bits, to, got)
				}
			}
		}
	}
}

func TestP10_1RetargetOfNoTarget(t *testing.T) {
	for _, p := range rules() {
		for _, bits := range noTargets {
			for _, took := range []int{math.MinInt, 0, p.Interval * p.Spacing, math.MaxInt} {
				if got := pace.Retarget(p, bits, 0, took); got != p.Limit {
					t.Errorf("%+v, %x, %d: %x", p, bits, took, got)
				}
			}
		}
	}
}

func TestP10_1Starts(t *testing.T) {
	for _, c := range []struct {
		interval, height int
		want             bool
	}{
		{4, 0, true}, {4, 1, false}, {4, 3, false}, {4, 4, true}, {4, 5, false}, {4, 8, true}, {4, 400, true}, {4, 401, false},
		{64, 63, false}, {64, 64, true}, {64, 65, false}, {2, 1, false}, {2, 2, true}, {3, 2, false}, {3, 3, true}, {3, 4, false},
		{4, -1, false}, {4, -3, false}, {4, -4, true}, {4, -8, true}, {64, math.MinInt, true}, {64, math.MaxInt, false}, {7, math.MaxInt, true},
		{1, 5, true}, {1, math.MinInt, true}, {100, 100, true}, {100, 50, false}, {math.MaxInt, math.MaxInt, true}, {math.MaxInt, 1, false},
		{0, 0, false}, {0, 4, false}, {-1, 0, false}, {-1, math.MinInt, false}, {-4, 8, false}, {-4, 0, false}, {math.MinInt, 0, false}, {math.MinInt, math.MinInt, false},
	} {
		for _, p := range []api.Params{{Interval: c.interval}, {Limit: 0x207fffff, Interval: c.interval, Spacing: 10, Easy: true}} {
			if got := pace.Starts(p, c.height); got != c.want {
				t.Errorf("%d of %d: %v", c.height, c.interval, got)
			}
		}
	}
}

func TestP10_1StartsOncePerPeriod(t *testing.T) {
	for interval := 1; interval <= 70; interval++ {
		p := api.Params{Interval: interval}
		left := 0
		for height := range 1000 {
			if got := pace.Starts(p, height); got != (left == 0) {
				t.Errorf("%d of %d: %v", height, interval, got)
			}
			if left == 0 {
				left = interval
			}
			left--
		}
	}
}

func TestP10_1NextByHand(t *testing.T) {
	easy := usual
	easy.Easy = true
	at := func(height int) pace.Point {
		return pace.Point{Height: height, Bits: 0x2007ffff, Time: 100, First: 20, Hard: 0x2006ffff}
	}
	for _, c := range []struct {
		name string
		p    api.Params
		at   pace.Point
		time int
		want int
	}{
		{"the genesis", usual, at(0), 500, 0x207fffff},
		{"below it", usual, at(-1), 500, 0x207fffff},
		{"below it, at a period's height", usual, at(-4), 500, 0x207fffff},
		{"far below it", easy, at(math.MinInt), 110, 0x207fffff},
		{"the genesis, with easy ones", easy, at(0), 110, 0x207fffff},
		{"the first one behind it", usual, at(1), 500, 0x2007ffff},
		{"within a period", usual, at(5), 500, 0x2007ffff},
		{"the last one of a period", usual, at(7), 500, 0x2007ffff},
		{"a period's first one, from First to Time", usual, at(4), 500, 0x200ffffe},
		{"and so at each of them", usual, at(8), math.MinInt, 0x200ffffe},
		{"and so with easy ones", easy, at(8), 110, 0x200ffffe},
		{"and so with late ones", easy, at(8), 5000, 0x200ffffe},
		{"late, without easy ones", usual, at(6), 5000, 0x2007ffff},
		{"late", easy, at(6), 121, 0x207fffff},
		{"not late as yet", easy, at(6), 120, 0x2006ffff},
		{"at once", easy, at(6), 100, 0x2006ffff},
		{"ahead of the one ahead", easy, at(6), 20, 0x2006ffff},
		{"far late", easy, at(1), 1 << 32, 0x207fffff},
		{"late, at the height 1", easy, at(1), 121, 0x207fffff},
		{"not late as yet, at the height 1", easy, at(1), 120, 0x2006ffff},
	} {
		if got := pace.Next(c.p, c.at, c.time); got != c.want {
			t.Errorf("%s: %x, not %x", c.name, got, c.want)
		}
	}
}

// wantNext: by numbers without bounds, of which 64 bits are left; a period's first height is looked for by hand.
func wantNext(p api.Params, at pace.Point, time int) int {
	if at.Height <= 0 {
		return p.Limit
	}
	if p.Interval > 0 && at.Height/p.Interval*p.Interval == at.Height {
		if !pace.Good(p) {
			return p.Limit
		}
		return wantRetarget(p, at.Bits, at.First, at.Time)
	}
	if !p.Easy {
		return at.Bits
	}
	two := round(new(big.Int).Mul(big.NewInt(2), big.NewInt(int64(p.Spacing))))
	if took(at.Time, time).Cmp(two) > 0 {
		return p.Limit
	}
	return at.Hard
}

func TestP10_1NextOfAllRules(t *testing.T) {
	for _, p := range append(rules(), badRules()...) {
		for _, p.Easy = range []bool{false, true} {
			for _, height := range []int{math.MinInt, -p.Interval, -1, 0, 1, 2, 3, p.Interval - 1, p.Interval, p.Interval + 1, 8 * p.Interval, math.MaxInt} {
				for _, bits := range []int{0x03000005, 0x1d00ffff, 0x207fffff, 0, -1, 0x04923456, p.Limit} {
					for _, after := range []int{-1, 0, p.Spacing, 2*p.Spacing - 1, 2 * p.Spacing, 2*p.Spacing + 1, math.MinInt, math.MaxInt} {
						at := pace.Point{Height: height, Bits: bits, Time: 1000, First: 1000 - p.Interval*p.Spacing/2, Hard: 0x1c7fffff}
						if got, want := pace.Next(p, at, 1000+after), wantNext(p, at, 1000+after); got != want {
							t.Fatalf("%+v, %+v, %d: %x, not %x", p, at, after, got, want)
						}
					}
				}
			}
		}
	}
}

func TestP10_1NextAtAllNumbers(t *testing.T) {
	easy := usual
	easy.Easy = true
	for _, p := range []api.Params{usual, easy} {
		for _, number := range edges {
			for _, other := range append([]int{number + 19, number + 20, number + 21}, edges...) {
				for _, at := range []pace.Point{
					{Height: 5, Bits: 0x2007ffff, Time: number, First: other, Hard: other},
					{Height: 8, Bits: 0x2007ffff, Time: number, First: other, Hard: number},
					{Height: number, Bits: other, Time: 100, First: number, Hard: other},
				} {
					if got, want := pace.Next(p, at, other), wantNext(p, at, other); got != want {
						t.Errorf("%+v, %d: %x, not %x", at, other, got, want)
					}
				}
			}
		}
	}
	for _, spacing := range edges { // two of them go round
		p := api.Params{Limit: 0x207fffff, Interval: 4, Spacing: spacing, Easy: true}
		for _, time := range append([]int{2*spacing - 1, 2 * spacing, 2*spacing + 1}, edges...) {
			at := pace.Point{Height: 5, Bits: 5, Hard: 6}
			if got, want := pace.Next(p, at, time), wantNext(p, at, time); got != want {
				t.Errorf("a spacing of %d, %d: %x, not %x", spacing, time, got, want)
			}
		}
	}
}

func TestP10_1NextOfAnEmptyPoint(t *testing.T) {
	for _, p := range append(badRules(), usual) {
		if got := pace.Next(p, pace.Point{}, 5); got != p.Limit {
			t.Errorf("%+v: %x", p, got)
		}
	}
}

func TestP10_2WhatIsSetAnewIsATarget(t *testing.T) {
	for _, p := range rules() {
		for _, bits := range shorts(p.Limit) {
			for _, took := range tooks(p.Interval * p.Spacing) {
				got := pace.Retarget(p, bits, 5000, 5000+took)
				if n, ok := compact.Target(got, p.Limit); !ok || whole.Zero(n) {
					t.Fatalf("%+v, %x, %d: %x", p, bits, took, got)
				}
			}
		}
	}
}

func TestP10_2LongerNeverMakesItHarder(t *testing.T) {
	for _, p := range rules() {
		for _, bits := range shorts(p.Limit) {
			last := new(big.Int)
			for _, took := range tooks(p.Interval * p.Spacing) {
				got, _ := compact.Target(pace.Retarget(p, bits, 0, took), p.Limit)
				if toBig(got).Cmp(last) < 0 {
					t.Fatalf("%+v, %x, %d: %x, below %x", p, bits, took, got, last)
				}
				last = toBig(got)
			}
		}
	}
}

func TestP10_2EachSecond(t *testing.T) {
	for _, p := range []api.Params{usual, {Limit: 0x2100ffff, Interval: 64, Spacing: 3, Future: 1}, {Limit: 0x0300ffff, Interval: 3, Spacing: 7, Future: 1}} {
		for _, bits := range []int{p.Limit, p.Limit - 1, p.Limit - 1<<24, 0x03000002, 0x0300fffe} {
			last := api.Num{}
			for took := -3; took < 5*p.Interval*p.Spacing; took++ {
				got, ok := compact.Target(pace.Retarget(p, bits, 0, took), p.Limit)
				if !ok || whole.Less(got, last) {
					t.Fatalf("%+v, %x, %d: %x, %v, behind %x", p, bits, took, got, ok, last)
				}
				last = got
			}
		}
	}
}

func TestP10_2AsLongAsItShouldLeavesItAsItIs(t *testing.T) {
	for _, p := range rules() {
		for _, short := range shorts(p.Limit) {
			n, ok := compact.Target(short, p.Limit)
			if !ok {
				continue
			}
			bits := compact.Encode(n)
			if kept, _, _ := compact.Decode(bits); kept != n {
				continue
			}
			if got := pace.Retarget(p, bits, 100, 100+p.Interval*p.Spacing); got != bits {
				t.Errorf("%+v: %x, not %x", p, got, bits)
			}
		}
	}
}
