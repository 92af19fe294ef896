package shake_test

import (
	"math"
	"math/rand"
	"reflect"
	"slices"
	"testing"

	"trailhead/api"
	"trailhead/score"
	"trailhead/shake"
)

// own is what the talks of these tests tell of themselves, his what the other one tells.
var (
	own    = shake.Own{Version: 70016, Services: 9, Height: 7, Number: 5}
	mine   = api.Msg{Kind: api.KindVersion, Version: 70016, Services: 9, Height: 7, Number: 5}
	his    = api.Msg{Kind: api.KindVersion, Version: 70015, Services: 4, Height: 9, Number: 6}
	verack = api.Msg{Kind: api.KindVerack}
	direct = api.Msg{Kind: api.KindSendheaders}
	none   []api.Msg
)

// others are messages that a talk has nothing to say to; some are of no kind.
var others = []api.Msg{
	{}, {Kind: -1}, {Kind: 9}, {Kind: math.MaxInt}, {Kind: math.MinInt}, {Kind: 1<<32 + 1}, {Kind: 256 + 6, Number: 5},
	{Kind: api.KindGetheaders, Version: 1, Names: []api.Hash{{1}}, Stop: api.Hash{2}}, {Kind: api.KindHeaders, Headers: []api.Header{{Version: 1}}}, {Kind: api.KindHeaders}, {Kind: api.KindInv, Names: []api.Hash{{3}}},
}

// numbers are about what an int holds, about what a ping has room for, and about nought.
var numbers = []int{math.MinInt, math.MinInt + 1, -1 << 56, -1, 0, 1, 2, 5, 1<<32 - 1, 1 << 32, 1<<56 - 2, 1<<56 - 1, 1 << 56, 1<<56 + 1, math.MaxInt - 1, math.MaxInt}

// ping, pong: of a number.
func ping(number int) api.Msg { return api.Msg{Kind: api.KindPing, Number: number} }

func pong(number int) api.Msg { return api.Msg{Kind: api.KindPong, Number: number} }

// says: what was said must be just these.
func says(t testing.TB, got []api.Msg, want ...api.Msg) {
	t.Helper()
	if len(got) != len(want) || len(got) > 0 && !reflect.DeepEqual(got, want) {
		t.Fatalf("%v, not %v", got, want)
	}
}

// in: a message comes to a talk; for what the other one is blamed, and what is said, must be these.
func in(t testing.TB, h *shake.Hand, m api.Msg, blame score.Fault, want ...api.Msg) {
	t.Helper()
	got, fault := h.In(m)
	if fault != blame {
		t.Fatalf("%v: blamed for %d, not %d", m, fault, blame)
	}
	says(t, got, want...)
}

// is: what a talk tells of itself must be this.
func is(t testing.TB, h *shake.Hand, ready, gone, headers bool, height int) {
	t.Helper()
	if h.Ready() != ready || h.Gone() != gone || h.Direct() != headers || h.Height() != height {
		t.Fatalf("ready %t, gone %t, direct %t, at %d; not %t, %t, %t, %d", h.Ready(), h.Gone(), h.Direct(), h.Height(), ready, gone, headers, height)
	}
}

// open: a talk from a time on.
func open(t testing.TB, inbound bool, now int) *shake.Hand {
	t.Helper()
	h, said := shake.Open(own, inbound, now)
	if h == nil {
		t.Fatal("no talk")
	}
	if inbound {
		says(t, said)
	} else {
		says(t, said, mine)
	}
	is(t, h, false, false, false, 0)
	return h
}

// half: a talk in which the other one's version came; whole: in which both have agreed.
func half(t testing.TB, inbound bool, now int) *shake.Hand {
	t.Helper()
	h := open(t, inbound, now)
	if inbound {
		in(t, h, his, 0, mine, verack)
	} else {
		in(t, h, his, 0, verack)
	}
	is(t, h, false, false, false, 9)
	return h
}

func whole(t testing.TB, inbound bool, now int) *shake.Hand {
	t.Helper()
	h := half(t, inbound, now)
	in(t, h, verack, 0, direct)
	is(t, h, true, false, false, 9)
	return h
}

// over: a talk must have ended, and nothing happens in it any more.
func over(t testing.TB, h *shake.Hand, height int) {
	t.Helper()
	for range 2 {
		is(t, h, false, true, false, height)
		for _, m := range slices.Concat(others, []api.Msg{his, mine, verack, direct, ping(1), pong(1), pong(0)}) {
			in(t, h, m, 0)
		}
		for _, n := range numbers {
			says(t, h.Ping(n, n))
			if h.Tick(n) {
				t.Fatalf("it goes on at %d", n)
			}
		}
		h.End()
	}
	is(t, h, false, true, false, height)
}

func TestP21_1Constants(t *testing.T) {
	if shake.Least != 31800 || shake.Patience != 60 {
		t.Errorf("%d, %d", shake.Least, shake.Patience)
	}
}

func TestP21_1OpenByHand(t *testing.T) {
	for _, inbound := range []bool{false, true} {
		h := whole(t, inbound, 0)
		in(t, h, direct, 0)
		is(t, h, true, false, true, 9)
	}
}

// What we are may be any numbers: they are told as they are.
func TestP21_1OpenTellsAnyNumbers(t *testing.T) {
	r := rand.New(rand.NewSource(1))
	any := func() int { return numbers[r.Intn(len(numbers))] }
	for range 500 {
		o := shake.Own{Version: any(), Services: any(), Height: any(), Number: any()}
		told := api.Msg{Kind: 1, Version: o.Version, Services: o.Services, Height: o.Height, Number: o.Number}
		other := api.Msg{Kind: 1, Version: 31800, Height: any(), Number: o.Number + 1}
		_, said := shake.Open(o, false, any())
		says(t, said, told)
		h, said := shake.Open(o, true, any())
		says(t, said)
		in(t, h, other, 0, told, verack)
		is(t, h, false, false, false, other.Height)
	}
}

func TestP21_1VersionByHand(t *testing.T) {
	for _, inbound := range []bool{false, true} {
		for _, c := range []struct {
			version, number int
			goes            bool
		}{
			{31800, 6, true}, {31801, 6, true}, {31799, 6, false}, {0, 6, false}, {-1, 6, false}, {math.MinInt, 6, false}, {math.MaxInt, 6, true}, {1<<32 - 1, 6, true},
			{70016, 5, false}, {70016, 4, true}, {70016, 0, true}, {70016, -5, true}, {70016, 1<<32 + 5, true}, {70016, 1<<56 + 5, true}, {70016, math.MinInt + 5, true}, {31799, 5, false}, {31800, 5, false},
		} {
			h := open(t, inbound, 0)
			m := api.Msg{Kind: api.KindVersion, Version: c.version, Services: 77, Height: 12, Number: c.number}
			switch {
			case !c.goes:
				in(t, h, m, 0)
				over(t, h, 0)
			case inbound:
				in(t, h, m, 0, mine, verack)
				is(t, h, false, false, false, 12)
			default:
				in(t, h, m, 0, verack)
				is(t, h, false, false, false, 12)
			}
		}
	}
}

func TestP21_1HeightByHand(t *testing.T) {
	for _, height := range numbers {
		h := open(t, false, 0)
		m := his
		m.Height = height
		in(t, h, m, 0, verack)
		is(t, h, false, false, false, height)
		in(t, h, verack, 0, direct)
		is(t, h, true, false, false, height)
		in(t, h, m, score.BadOrder)
		over(t, h, height)
	}
}

// Of what comes out of place the other one is blamed, and the talk ends, as far as it is.
func TestP21_1OutOfPlace(t *testing.T) {
	own, low := his, his
	own.Number, low.Version = 5, 31799
	rest := slices.Concat(others, []api.Msg{direct, ping(1), ping(0), pong(1), pong(0)})
	for _, inbound := range []bool{false, true} {
		for _, m := range append(slices.Clone(rest), verack) {
			h := open(t, inbound, 0)
			in(t, h, m, score.BadOrder)
			over(t, h, 0)
		}
		for _, m := range append(slices.Clone(rest), his, own, low, mine) {
			h := half(t, inbound, 0)
			in(t, h, m, score.BadOrder)
			over(t, h, 9)
		}
		for _, m := range []api.Msg{verack, his, own, low, mine} {
			h := whole(t, inbound, 0)
			in(t, h, direct, 0)
			in(t, h, m, score.BadOrder)
			over(t, h, 9)
		}
	}
}

// Behind a version that ended the talk another one is nothing, and nobody is blamed for it.
func TestP21_1BehindTheEndNothing(t *testing.T) {
	for _, first := range []api.Msg{mine, {Kind: api.KindVersion, Version: 31799, Height: 3, Number: 8}} {
		h := open(t, true, 0)
		in(t, h, first, 0)
		in(t, h, first, 0)
		in(t, h, his, 0)
		over(t, h, 0)
	}
}

func TestP21_1WhatElseComesIsLeft(t *testing.T) {
	h := whole(t, false, 0)
	for range 2 {
		for _, m := range others {
			in(t, h, m, 0)
			is(t, h, true, false, false, 9)
		}
	}
	says(t, h.Ping(3, 0), ping(3))
	for _, m := range others {
		in(t, h, m, 0)
	}
	in(t, h, direct, 0)
	for _, m := range append(slices.Clone(others), direct) {
		in(t, h, m, 0)
		is(t, h, true, false, true, 9)
	}
	in(t, h, pong(3), 0) // nothing of these ended the waiting
}

func TestP21_1PingGetsPong(t *testing.T) {
	h := whole(t, true, 0)
	for range 2 {
		for _, n := range numbers {
			in(t, h, ping(n), 0, pong(n))
			is(t, h, true, false, false, 9)
		}
		says(t, h.Ping(4, 0), ping(4))
		in(t, h, ping(4), 0, pong(4)) // the other one's is none of ours
		in(t, h, pong(4), 0)
	}
}

func TestP21_1PongByHand(t *testing.T) {
	h := whole(t, false, 0)
	for _, n := range numbers {
		in(t, h, pong(n), score.Unsolicited)
		is(t, h, true, false, false, 9)
	}
	says(t, h.Ping(3, 0), ping(3))
	for _, n := range numbers {
		in(t, h, pong(n), score.Unsolicited)
		in(t, h, pong(-3), score.Unsolicited)
		says(t, h.Ping(7, 0)) // 3 is still waited for
	}
	in(t, h, pong(3), 0)
	in(t, h, pong(3), score.Unsolicited)
	in(t, h, pong(0), score.Unsolicited)
	says(t, h.Ping(3, 0), ping(3))
	in(t, h, pong(3), 0)
	is(t, h, true, false, false, 9)
}

func TestP21_1PingByHand(t *testing.T) {
	for _, n := range numbers {
		h := open(t, false, 0)
		says(t, h.Ping(n, 0))
		in(t, h, his, 0, verack)
		says(t, h.Ping(n, 0))
		in(t, h, verack, 0, direct)
		if n < 1 || n > 1<<56-1 {
			says(t, h.Ping(n, 0))
			in(t, h, pong(n), score.Unsolicited) // nor is it waited for
			says(t, h.Ping(8, 0), ping(8))
			continue
		}
		says(t, h.Ping(n, 0), ping(n))
		for _, other := range numbers {
			says(t, h.Ping(other, 0))
		}
		in(t, h, pong(n), 0)
		says(t, h.Ping(n, 0), ping(n))
	}
}

// A ping that nothing is said of leaves the one that is waited for, and its time.
func TestP21_1PingOnceAtATime(t *testing.T) {
	h := whole(t, false, 0)
	says(t, h.Ping(3, 100), ping(3))
	says(t, h.Ping(3, 150))
	says(t, h.Ping(4, 150))
	in(t, h, pong(4), score.Unsolicited)
	if !h.Tick(160) || h.Tick(161) {
		t.Error("not 60 seconds")
	}
	over(t, h, 9)
}

func TestP21_1TickAheadOfAgreement(t *testing.T) {
	for _, inbound := range []bool{false, true} {
		for _, begun := range []int{0, 10, -1000, 1 << 32, math.MinInt, math.MinInt + 1, math.MaxInt - 60, math.MaxInt - 30, math.MaxInt} {
			for _, c := range []struct {
				behind int
				goes   bool
			}{{0, true}, {1, true}, {59, true}, {60, true}, {61, false}, {62, false}, {1 << 32, false}, {math.MaxInt, false}, {math.MinInt, true}, {-1, true}, {-1 << 32, true}} {
				for _, make := range []func(testing.TB, bool, int) *shake.Hand{open, half} {
					h := make(t, inbound, begun)
					if got := h.Tick(begun + c.behind); got != c.goes || h.Gone() == c.goes { // it may go round
						t.Errorf("%d, %d behind it: %t", begun, c.behind, got)
					}
				}
				h := whole(t, inbound, begun)
				if !h.Tick(begun+c.behind) || !h.Ready() {
					t.Errorf("%d, %d behind it: ended, though both have agreed", begun, c.behind)
				}
			}
		}
	}
}

func TestP21_1TickBehindAPing(t *testing.T) {
	for _, said := range []int{0, 10, -1000, 1 << 32, math.MinInt, math.MaxInt - 60, math.MaxInt - 30, math.MaxInt} {
		for _, c := range []struct {
			behind int
			goes   bool
		}{{0, true}, {59, true}, {60, true}, {61, false}, {1 << 32, false}, {math.MaxInt, false}, {math.MinInt, true}, {-1, true}, {-61, true}} {
			h := whole(t, false, said-1000)
			says(t, h.Ping(1, said), ping(1))
			if got := h.Tick(said + c.behind); got != c.goes || h.Gone() == c.goes {
				t.Errorf("%d, %d behind it: %t", said, c.behind, got)
			}
			h = whole(t, false, said)
			says(t, h.Ping(1, said), ping(1))
			in(t, h, pong(1), 0)
			if !h.Tick(said+c.behind) || !h.Ready() {
				t.Errorf("%d, %d behind it: ended, though the pong came", said, c.behind)
			}
		}
	}
}

// Only a tick ends a talk for its silence: what comes late, but ahead of that, is in time.
func TestP21_1LateButAheadOfTheTick(t *testing.T) {
	h := half(t, false, 0)
	if !h.Tick(60) {
		t.Fatal("ended")
	}
	in(t, h, verack, 0, direct)
	if !h.Tick(1000) {
		t.Fatal("ended, though both have agreed")
	}
	says(t, h.Ping(1, 1000), ping(1))
	says(t, h.Ping(2, 5000))
	in(t, h, pong(1), 0)
	if !h.Tick(9000) {
		t.Fatal("ended, though the pong came")
	}
	says(t, h.Ping(2, 9001), ping(2))
	if !h.Tick(9061) || !h.Tick(9000) || h.Tick(9062) || h.Tick(9001) {
		t.Error("not 60 seconds")
	}
	over(t, h, 9)
}

func TestP21_1EndByHand(t *testing.T) {
	for _, inbound := range []bool{false, true} {
		h := open(t, inbound, 0)
		h.End()
		over(t, h, 0)
		h = half(t, inbound, 0)
		h.End()
		over(t, h, 9)
		h = whole(t, inbound, 0)
		in(t, h, direct, 0)
		says(t, h.Ping(1, 0), ping(1))
		h.End()
		over(t, h, 9)
	}
}

func TestP21_1Nil(t *testing.T) { over(t, nil, 0) }

// deed is one thing that was done to a talk.
type deed struct {
	what   string // in, ping, tick, end
	m      api.Msg
	number int
	now    int
}

// record is all that was done to a talk, in order: what it answers is reckoned from this alone, each time anew.
type record struct {
	own     shake.Own
	inbound bool
	now     int
	deeds   []deed
}

// heard: the messages of some deeds.
func heard(deeds []deed) []api.Msg {
	var out []api.Msg
	for _, d := range deeds {
		if d.what == "in" {
			out = append(out, d.m)
		}
	}
	return out
}

// waits: the last ping that was said in some deeds, if no pong came behind it.
func waits(deeds []deed) (deed, bool) {
	var last deed
	waited := false
	for i, d := range deeds {
		if d.what == "ping" && !waited && len(heard(deeds[:i])) >= 2 && d.number > 0 && d.number < 1<<56 {
			last, waited = d, true
		}
		if d.what == "in" && d.m.Kind == api.KindPong && d.m.Number == last.number {
			waited = false
		}
	}
	return last, waited
}

// fails: whether a deed ends a talk that goes on behind those ahead of it, and how the other one is blamed. (In such a talk the first message was a version, the second one a verack, and none behind them is either.)
func (r record) fails(i int) (bool, score.Fault) {
	d, ahead := r.deeds[i], heard(r.deeds[:i])
	switch d.what {
	case "end":
		return true, 0
	case "tick":
		if len(ahead) < 2 {
			return d.now-r.now > 60, 0
		}
		asked, waited := waits(r.deeds[:i])
		return waited && d.now-asked.now > 60, 0
	case "in":
		due := min(len(ahead), 2) + 1
		if due != min(d.m.Kind, 3) && !(due == 3 && d.m.Kind < 1) {
			return true, score.BadOrder
		}
		return due == 1 && (d.m.Number == r.own.Number || d.m.Version < 31800), 0
	}
	return false, 0
}

// end: the place of the deed that ended the talk; how many there are, if none did.
func (r record) end() int {
	for i := range r.deeds {
		if is, _ := r.fails(i); is {
			return i
		}
	}
	return len(r.deeds)
}

// answer: what is said to the last deed, for what the other one is blamed, and whether the talk goes on behind it.
func (r record) answer() ([]api.Msg, score.Fault, bool) {
	i := len(r.deeds) - 1
	switch end := r.end(); {
	case end < i:
		return nil, 0, false
	case end == i:
		_, fault := r.fails(i)
		return nil, fault, false
	}
	d, count := r.deeds[i], len(heard(r.deeds[:i]))
	asked, waited := waits(r.deeds[:i])
	switch {
	case d.what == "ping":
		if now, is := waits(r.deeds); is && !waited {
			return []api.Msg{ping(now.number)}, 0, true
		}
	case d.what == "in" && count == 0 && r.inbound:
		return []api.Msg{{Kind: 1, Version: r.own.Version, Services: r.own.Services, Height: r.own.Height, Number: r.own.Number}, verack}, 0, true
	case d.what == "in" && count == 0:
		return []api.Msg{verack}, 0, true
	case d.what == "in" && count == 1:
		return []api.Msg{direct}, 0, true
	case d.what == "in" && d.m.Kind == api.KindPing:
		return []api.Msg{pong(d.m.Number)}, 0, true
	case d.what == "in" && d.m.Kind == api.KindPong && !(waited && asked.number == d.m.Number):
		return nil, score.Unsolicited, true
	}
	return nil, 0, true
}

// tells: what a talk tells of itself must be what is reckoned.
func (r record) tells(t testing.TB, h *shake.Hand) {
	t.Helper()
	end := r.end()
	list, height := heard(r.deeds[:end]), 0
	if len(list) > 0 {
		height = list[0].Height
	}
	ready := end == len(r.deeds) && len(list) >= 2
	is(t, h, ready, end < len(r.deeds), ready && slices.ContainsFunc(list[2:], func(m api.Msg) bool { return m.Kind == 8 }), height)
}

// anyDeed: one that fits where the talk is, by and large.
func anyDeed(r *rand.Rand, log record, now int) deed {
	number := r.Intn(3)
	if r.Intn(8) == 0 {
		number = numbers[r.Intn(len(numbers))]
	}
	list := []api.Msg{ping(number), ping(number), pong(number), pong(number), pong(number), direct, others[r.Intn(len(others))]}
	if count := len(heard(log.deeds)); count < 2 && r.Intn(8) > 0 {
		list = []api.Msg{{Kind: 1, Version: 31797 + r.Intn(20), Services: number, Height: r.Intn(5), Number: r.Intn(20)}, verack}[count : count+1]
	} else if r.Intn(30) == 0 {
		list = []api.Msg{verack, his}
	}
	switch r.Intn(5) {
	case 0:
		return deed{what: "ping", number: number, now: now}
	case 1:
		return deed{what: "tick", now: now}
	case 2:
		if r.Intn(20) == 0 {
			return deed{what: "end"}
		}
	}
	return deed{what: "in", m: list[r.Intn(len(list))]}
}

// do: a deed to a talk; what it answers must be what is reckoned.
func (r *record) do(t testing.TB, h *shake.Hand, d deed) {
	t.Helper()
	r.deeds = append(r.deeds, d)
	said, fault, goes := r.answer()
	switch d.what {
	case "in":
		in(t, h, d.m, fault, said...)
	case "ping":
		says(t, h.Ping(d.number, d.now), said...)
	case "tick":
		if h.Tick(d.now) != goes {
			t.Fatalf("%v: it goes on: %t", r.deeds, !goes)
		}
	case "end":
		h.End()
	}
	r.tells(t, h)
}

func TestP21_1AnyOrder(t *testing.T) {
	ready := 0
	for seed := range int64(1500) {
		r := rand.New(rand.NewSource(seed))
		now := r.Intn(100) - 50
		if r.Intn(4) == 0 {
			now = math.MaxInt - 100
		}
		log := &record{own: shake.Own{Version: r.Intn(9), Services: r.Intn(9), Height: r.Intn(9), Number: r.Intn(20)}, inbound: r.Intn(2) == 0, now: now}
		h, _ := shake.Open(log.own, log.inbound, now)
		for range 25 {
			now += r.Intn(15)
			log.do(t, h, anyDeed(r, *log, now))
		}
		if h.Ready() {
			ready++
		}
	}
	if ready < 200 {
		t.Errorf("%d talks came far", ready)
	}
}

// Two talks know nothing of one another.
func TestP21_1TwoTalks(t *testing.T) {
	one, other := whole(t, false, 0), half(t, true, 0)
	in(t, one, direct, 0)
	says(t, one.Ping(3, 0), ping(3))
	is(t, other, false, false, false, 9)
	in(t, other, verack, 0, direct)
	in(t, other, pong(3), score.Unsolicited)
	in(t, one, pong(3), 0)
	other.End()
	is(t, one, true, false, true, 9)
	over(t, other, 9)
}

// What is handed in stays as it is, and isn't kept.
func TestP21_1WhatIsHandedInStaysAndIsntKept(t *testing.T) {
	h := whole(t, false, 0)
	names, list := []api.Hash{{1}, {2}, {3}}, []api.Header{{Version: 1}, {Version: 2}}
	for kind := range 12 {
		m := api.Msg{Kind: kind, Version: 40000, Services: 2, Height: 3, Number: 4, Names: names[:2], Stop: api.Hash{7}, Headers: list[:1]}
		for _, h := range []*shake.Hand{open(t, true, 0), half(t, true, 0), h} {
			said, _ := h.In(m)
			for _, m := range said {
				if m.Names != nil || m.Headers != nil || m.Stop != (api.Hash{}) {
					t.Errorf("%d: %v", kind, m)
				}
			}
		}
		if !slices.Equal(names, []api.Hash{{1}, {2}, {3}}) || !slices.Equal(list, []api.Header{{Version: 1}, {Version: 2}}) {
			t.Fatalf("%d: written into", kind)
		}
		h = whole(t, false, 0)
	}
}

// What is said is new each time: nobody else sees what is written into it.
func TestP21_1WhatIsToldIsNew(t *testing.T) {
	blot := func(list []api.Msg) {
		for i := range list[:cap(list)] {
			list[:cap(list)][i] = api.Msg{Kind: 99, Number: 99, Height: 99}
		}
	}
	_, said := shake.Open(own, false, 0)
	blot(said)
	for _, inbound := range []bool{true, false, true} {
		h, said := shake.Open(own, inbound, 0)
		blot(said)
		said, _ = h.In(his)
		blot(said)
		said, _ = h.In(verack)
		blot(said)
		blot(h.Ping(3, 0))
		said, _ = h.In(ping(4))
		blot(said)
		in(t, h, ping(4), 0, pong(4))
		in(t, h, pong(3), 0)
		is(t, h, true, false, false, 9)
		whole(t, inbound, 0)
	}
}

// side is one of two who keep to what the chapter says: a talk, and what the other one said, that it hasn't heard as yet.
type side struct {
	h     *shake.Hand
	heard []api.Msg
}

// hear: one hears the next that the other one said, and says what it has to; whether there was any.
func hear(t testing.TB, one, other *side) bool {
	t.Helper()
	if len(one.heard) == 0 {
		return false
	}
	said, fault := one.h.In(one.heard[0])
	if fault != 0 || one.h.Gone() {
		t.Fatalf("%v: blamed for %d, gone: %t", one.heard[0], fault, one.h.Gone())
	}
	one.heard = one.heard[1:]
	other.heard = append(other.heard, said...)
	return true
}

// meet: two of whom the first begins; the second does too, if both do.
func meet(r *rand.Rand, both bool) (*side, *side) {
	anyOwn := func(number int) shake.Own {
		return shake.Own{Version: 31800 + r.Intn(3)*r.Intn(50000), Services: r.Intn(9), Height: r.Intn(100), Number: number}
	}
	first := r.Intn(10) - 3
	one, other := &side{}, &side{}
	one.h, other.heard = shake.Open(anyOwn(first), false, 0)
	other.h, one.heard = shake.Open(anyOwn(first+1+r.Intn(5)), !both, 0)
	return one, other
}

func TestP21_2TwoAgree(t *testing.T) {
	for seed := range int64(2000) {
		r := rand.New(rand.NewSource(seed))
		one, other := meet(r, seed%4 == 0)
		now := 0
		for range 40 {
			if r.Intn(2) == 0 {
				one, other = other, one
			}
			hear(t, one, other)
			now += r.Intn(2) // they hear one another in time: in 40 seconds
			if !one.h.Tick(now) || !other.h.Tick(now) {
				t.Fatal("ended")
			}
			if r.Intn(3) == 0 {
				other.heard = append(other.heard, one.h.Ping(1+r.Intn(3), now)...)
			}
		}
		for hear(t, one, other) || hear(t, other, one) {
			now++
		}
		is(t, one.h, true, false, true, one.h.Height())
		is(t, other.h, true, false, true, other.h.Height())
		if !one.h.Tick(now+1000) || !other.h.Tick(now+1000) {
			t.Fatal("ended, though all was answered")
		}
	}
}

// One hears all that there is, then the other one; what each tells of itself comes to the other one.
func TestP21_2TwoAgreeInTurns(t *testing.T) {
	for _, both := range []bool{false, true} {
		for _, turn := range []bool{false, true} {
			one, other := &side{}, &side{}
			one.h, other.heard = shake.Open(shake.Own{Version: 31800, Height: 11, Number: 1}, false, 0)
			other.h, one.heard = shake.Open(shake.Own{Version: 31801, Height: 12}, !both, 0)
			first, second := one, other
			if turn {
				first, second = other, one
			}
			for range 5 {
				for hear(t, first, second) {
				}
				for hear(t, second, first) {
				}
			}
			is(t, one.h, true, false, true, 12)
			is(t, other.h, true, false, true, 11)
		}
	}
}

// Two who are one and the same don't agree, but nobody is blamed; nor do two neither of whom begins.
func TestP21_2WhoTalksToItself(t *testing.T) {
	one, said := shake.Open(own, false, 0)
	other, _ := shake.Open(own, true, 0)
	in(t, other, said[0], 0)
	over(t, other, 0)
	if !one.Tick(60) || one.Tick(61) {
		t.Error("it is waited for what never comes")
	}
	over(t, one, 0)
}
