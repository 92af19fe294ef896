package pledge_test

import (
	"crypto/sha256"
	"encoding/binary"
	"math"
	"math/rand"
	"runtime"
	"slices"
	"testing"

	"trailhead/api"
	"trailhead/pledge"
)

// edges are numbers about what an int holds, about nought, and about the periods that can be.
var edges = []int{
	math.MinInt, math.MinInt + 1, math.MinInt + 63, math.MinInt + 64, math.MinInt + 65, -1 << 32, -1 << 31, -65, -64, -63, -5, -4, -3, -2, -1,
	0, 1, 2, 3, 4, 5, 31, 32, 33, 62, 63, 64, 65, 66, 127, 128, 1<<31 - 1, 1 << 31, 1<<32 - 1, 1 << 32, 1<<62 + 1, math.MaxInt - 64, math.MaxInt - 63, math.MaxInt - 1, math.MaxInt,
}

// number: a name, of which the first bytes tell a number.
func number(n int) api.Hash {
	var out api.Hash
	binary.BigEndian.PutUint64(out[:], uint64(n))
	return out
}

// numbers: so many names, one unlike the other.
func numbers(count int) []api.Hash {
	out := make([]api.Hash, count)
	for i := range out {
		out[i] = number(i)
	}
	return out
}

// anyName: a name at random.
func anyName(r *rand.Rand) api.Hash {
	var out api.Hash
	r.Read(out[:])
	return out
}

// wantGood: by all plans that can be.
func wantGood(p pledge.Plan) bool {
	for period := 1; period <= 64; period++ {
		if p.Period != period {
			continue
		}
		for offset := range period {
			if p.Offset == offset {
				return true
			}
		}
	}
	return false
}

// wantDue: by how far a height is from the offset.
func wantDue(p pledge.Plan, height int) bool {
	return wantGood(p) && height >= p.Offset && uint64(height-p.Offset)%uint64(p.Period) == 0
}

// wantBit: by Go's own SHA-256.
func wantBit(p pledge.Plan, id api.Hash) bool {
	inner := sha256.Sum256(append(binary.LittleEndian.AppendUint64(nil, uint64(p.Salt)), id[:]...))
	return sha256.Sum256(inner[:])[0]%2 == 1
}

// oneWith: a name with such a bit.
func oneWith(t testing.TB, p pledge.Plan, bit bool) api.Hash {
	t.Helper()
	for n := range 1000 {
		if wantBit(p, number(n)) == bit {
			return number(n)
		}
	}
	t.Fatalf("%+v: no %t", p, bit)
	return api.Hash{}
}

// made: a book.
func made(t testing.TB, p pledge.Plan) *pledge.Book {
	t.Helper()
	b, e := pledge.New(p)
	if b == nil || e != api.OK {
		t.Fatalf("%+v: %d", p, e)
	}
	return b
}

// holds: a book must have just these bits, of which so many weren't met as yet.
func holds(t testing.TB, b *pledge.Book, left int, bits ...bool) {
	t.Helper()
	if got := b.Bits(); !slices.Equal(got, bits) {
		t.Fatalf("%t, not %t", got, bits)
	}
	if b.Given() != len(bits) || b.Left() != left {
		t.Fatalf("%d of %d left, not %d of %d", b.Left(), b.Given(), left, len(bits))
	}
}

// model is what a book should be: all that was given, and what wasn't met as yet.
type model struct {
	plan  pledge.Plan
	given []bool
	left  []bool
}

// give: as Give.
func (m *model) give(height int, names ...api.Hash) int {
	n := 0
	for _, id := range names {
		if wantDue(m.plan, height) {
			m.given = append(m.given, wantBit(m.plan, id))
			m.left = append(m.left, wantBit(m.plan, id))
			n++
		}
		height++
	}
	return n
}

// meet: as Meet.
func (m *model) meet(height int, id api.Hash) bool {
	if !wantDue(m.plan, height) {
		return true
	}
	if len(m.left) == 0 || m.left[0] != wantBit(m.plan, id) {
		return false
	}
	m.left = m.left[1:]
	return true
}

func TestP18_1MaxPeriod(t *testing.T) {
	if pledge.MaxPeriod != 64 {
		t.Error(pledge.MaxPeriod)
	}
}

func TestP18_1GoodByHand(t *testing.T) {
	for _, c := range []struct {
		period, offset int
		want           bool
	}{
		{1, 0, true}, {2, 0, true}, {2, 1, true}, {4, 1, true}, {4, 3, true}, {63, 62, true}, {64, 0, true}, {64, 63, true},
		{0, 0, false}, {0, -1, false}, {1, 1, false}, {1, -1, false}, {2, 2, false}, {4, 4, false}, {4, 5, false}, {64, 64, false}, {65, 0, false}, {65, 64, false},
		{-1, 0, false}, {-1, -2, false}, {-4, 1, false}, {-64, -65, false}, {64, -1, false}, {1 << 32, 0, false}, {1<<32 + 4, 1, false}, {4, 1<<32 + 1, false},
		{math.MaxInt, 0, false}, {math.MinInt, 0, false}, {math.MinInt, math.MinInt, false}, {64, math.MinInt, false}, {64, math.MaxInt, false}, {math.MaxInt, math.MaxInt - 1, false},
	} {
		for _, salt := range edges {
			p := pledge.Plan{Salt: salt, Period: c.period, Offset: c.offset}
			if pledge.Good(p) != c.want {
				t.Errorf("%+v: %t", p, !c.want)
			}
		}
	}
}

func TestP18_1GoodOfAllEdges(t *testing.T) {
	list := slices.Clone(edges)
	for n := -3; n < 70; n++ {
		list = append(list, n)
	}
	for _, period := range list {
		for _, offset := range list {
			p := pledge.Plan{Period: period, Offset: offset}
			if pledge.Good(p) != wantGood(p) {
				t.Errorf("%+v: %t", p, pledge.Good(p))
			}
		}
	}
}

func TestP18_1DueByHand(t *testing.T) {
	for _, c := range []struct {
		period, offset int
		due, not       []int
	}{
		{4, 1, []int{1, 5, 9, 1001, math.MaxInt - 2}, []int{0, 2, 3, 4, 6, 7, 8, 10, -1, -3, -4, -7, math.MinInt, math.MinInt + 1, math.MaxInt, math.MaxInt - 1, math.MaxInt - 3}},
		{4, 0, []int{0, 4, 8, 1 << 62}, []int{1, 2, 3, 5, -4, -8, math.MinInt, math.MaxInt}},
		{4, 3, []int{3, 7, 11, math.MaxInt}, []int{0, 1, 2, 4, -1, -3, math.MinInt + 3, math.MinInt}},
		{1, 0, []int{0, 1, 2, 3, 1 << 40, math.MaxInt}, []int{-1, -2, math.MinInt}},
		{64, 63, []int{63, 127, 191, math.MaxInt}, []int{0, 1, 62, 64, 126, -1, -65}},
		{64, 0, []int{0, 64, 128, 1 << 62}, []int{-64, 63, 65, math.MinInt}},
		{3, 2, []int{2, 5, 8, 1<<40 + 1}, []int{0, 1, 3, -1, 1 << 40}},
		{0, 0, nil, edges}, {-4, 1, nil, edges}, {4, 4, nil, edges}, {4, 5, nil, edges}, {4, -3, nil, edges}, {4, -1, nil, edges}, {65, 1, nil, edges}, {1, 1, nil, edges},
		{math.MinInt, 0, nil, edges}, {math.MaxInt, 0, nil, edges}, {math.MaxInt, 5, nil, edges}, {-1, 0, nil, edges}, {-1, math.MinInt, nil, edges},
	} {
		for _, salt := range []int{0, 7, -7, math.MinInt} {
			p := pledge.Plan{Salt: salt, Period: c.period, Offset: c.offset}
			for _, height := range c.due {
				if !p.Due(height) {
					t.Errorf("%+v: none at %d", p, height)
				}
			}
			for _, height := range c.not {
				if p.Due(height) {
					t.Errorf("%+v: one at %d", p, height)
				}
			}
		}
	}
}

func TestP18_1DueOfAllPlans(t *testing.T) {
	for period := -2; period < 68; period++ {
		for offset := -2; offset < 68; offset++ {
			p := pledge.Plan{Period: period, Offset: offset}
			for height := -70; height < 200; height++ {
				if p.Due(height) != wantDue(p, height) {
					t.Errorf("%+v: %t at %d", p, p.Due(height), height)
				}
			}
			for _, height := range edges {
				if p.Due(height) != wantDue(p, height) {
					t.Errorf("%+v: %t at %d", p, p.Due(height), height)
				}
			}
		}
	}
}

func TestP18_1BitByHand(t *testing.T) {
	for _, c := range []struct {
		salt        int
		first, last string // of names, of which the first, or the last byte is 0 to 15
	}{
		{0, "1000100001001001", "1110001101011010"},
		{1, "1100011110101000", "1001001010110100"},
		{7, "1011101001010010", "1001110110100111"},
		{-1, "0111111010111111", "0001000110001001"},
		{math.MaxInt, "0111111000100110", "0011111000111011"},
		{math.MinInt, "1011101100110100", "1111010010000011"},
	} {
		for i := range 16 {
			first, last := api.Hash{0: byte(i)}, api.Hash{31: byte(i)}
			for _, p := range []pledge.Plan{{Salt: c.salt}, {c.salt, 4, 1}, {c.salt, 64, 0}, {c.salt, -4, 9}} { // it hangs on the salt alone
				if p.Bit(first) != (c.first[i] == '1') {
					t.Errorf("%+v: %t of %x", p, p.Bit(first), first)
				}
				if p.Bit(last) != (c.last[i] == '1') {
					t.Errorf("%+v: %t of %x", p, p.Bit(last), last)
				}
			}
		}
	}
}

func TestP18_1BitOfAnyName(t *testing.T) {
	r := rand.New(rand.NewSource(18))
	ones := 0
	for range 5000 {
		p, id := pledge.Plan{Salt: int(r.Uint64()), Period: r.Intn(70), Offset: r.Intn(70)}, anyName(r)
		if p.Bit(id) != wantBit(p, id) {
			t.Fatalf("%+v: %t of %x", p, p.Bit(id), id)
		}
		if p.Bit(id) {
			ones++
		}
	}
	if ones < 2300 || ones > 2700 {
		t.Errorf("%d of 5000", ones)
	}
}

func TestP18_1NewByHand(t *testing.T) {
	for _, p := range []pledge.Plan{{0, 1, 0}, {7, 4, 1}, {math.MinInt, 64, 63}, {-1, 64, 0}, {math.MaxInt, 2, 1}} {
		b := made(t, p)
		holds(t, b, 0)
		if b.Meet(p.Offset, api.Hash{}) || !b.Meet(-1, api.Hash{}) {
			t.Errorf("%+v: something is met", p)
		}
		holds(t, b, 0)
	}
	for _, p := range []pledge.Plan{{}, {0, 0, -1}, {0, 65, 0}, {7, 4, 4}, {7, 4, -1}, {1, 1, 1}, {0, -1, 0}, {0, 64, 64}, {5, math.MinInt, 0}, {5, math.MaxInt, 0}, {5, 64, math.MinInt}, {5, 64, math.MaxInt}} {
		if b, e := pledge.New(p); b != nil || e != api.ErrArg {
			t.Errorf("%+v: %d", p, e)
		}
	}
}

func TestP18_1NewOfAllPlans(t *testing.T) {
	for period := -2; period < 68; period++ {
		for offset := -2; offset < 68; offset++ {
			p := pledge.Plan{Salt: 3, Period: period, Offset: offset}
			b, e := pledge.New(p)
			if (e == api.OK) != wantGood(p) || (b != nil) != wantGood(p) || (e != api.OK && e != api.ErrArg) {
				t.Errorf("%+v: %d", p, e)
			}
		}
	}
}

// Of salt 7 the names whose first byte is 0 to 15 have the bits 1011101001010010.
func TestP18_1GiveByHand(t *testing.T) {
	var names []api.Hash
	for i := range 16 {
		names = append(names, api.Hash{0: byte(i)})
	}
	p := pledge.Plan{Salt: 7, Period: 4, Offset: 1} // at 1, 5, 9, 13
	for _, c := range []struct {
		height int
		names  []api.Hash
		want   []bool
	}{
		{0, names, []bool{false, false, true, false}}, {1, names, []bool{true, true, false, false}}, {2, names, []bool{true, false, true, false}}, {3, names, []bool{true, true, false, true}},
		{0, nil, nil}, {1, []api.Hash{}, nil}, {0, names[:1], nil}, {0, names[:2], []bool{false}}, {1, names[:1], []bool{true}}, {1, names[:4], []bool{true}}, {1, names[:5], []bool{true, true}}, {2, names[:3], nil}, {2, names[:4], []bool{true}},
		{-1, names[:2], nil}, {-1, names[:3], []bool{true}}, {-3, names[:4], nil}, {-3, names[:5], []bool{true}}, {-16, names, nil}, {-15, names, nil}, {-14, names, []bool{false}}, {math.MinInt, names, nil}, {math.MinInt + 1, names, nil},
		{math.MaxInt - 2, names[:1], []bool{true}}, {math.MaxInt - 2, names, []bool{true}}, {math.MaxInt - 1, names, nil}, {math.MaxInt, names, nil}, {math.MaxInt - 6, names, []bool{true, true}}, // it goes round, and is far below 0
		{1, []api.Hash{names[1], names[0], names[0], names[0], names[0], names[1], names[1], names[1], names[1]}, []bool{false, true, false}},
	} {
		b := made(t, p)
		if n := b.Give(c.height, c.names...); n != len(c.want) {
			t.Errorf("%d from %d on: %d, not %d", len(c.names), c.height, n, len(c.want))
		}
		holds(t, b, len(c.want), c.want...)
		if n := b.Give(c.height, c.names...); n != len(c.want) { // what was given doesn't matter
			t.Errorf("%d from %d on, twice: %d, not %d", len(c.names), c.height, n, len(c.want))
		}
		holds(t, b, 2*len(c.want), append(c.want, c.want...)...)
	}
}

func TestP18_1MeetByHand(t *testing.T) {
	p := pledge.Plan{Salt: 7, Period: 4, Offset: 1}
	one, nought := api.Hash{0: 0}, api.Hash{0: 1}
	b := made(t, p)
	if b.Give(1, one, one, one, one, nought, nought, nought, nought, one) != 3 {
		t.Fatalf("%d", b.Given())
	}
	bits := []bool{true, false, true}
	for i, c := range []struct {
		height int
		id     api.Hash
		want   bool
		left   int
	}{
		{0, nought, true, 3}, {2, nought, true, 3}, {3, one, true, 3}, {-1, nought, true, 3}, {-3, nought, true, 3}, {math.MinInt, nought, true, 3}, {math.MaxInt, one, true, 3}, // there is no bit
		{1, nought, false, 3}, {1, nought, false, 3}, {1, api.Hash{0: 5}, false, 3}, {1, one, true, 2},
		{1, one, false, 2}, {5, one, false, 2}, {4, one, true, 2}, {1, nought, true, 1}, // any height with a bit has the next one
		{math.MaxInt - 2, nought, false, 1}, {math.MaxInt - 2, api.Hash{0: 2}, true, 0}, // a name with the same bit is as good
		{9, one, false, 0}, {9, nought, false, 0}, {13, one, false, 0}, {10, one, true, 0}, {-3, one, true, 0}, // none are left
	} {
		if b.Meet(c.height, c.id) != c.want {
			t.Errorf("%d: %t", i, !c.want)
		}
		holds(t, b, c.left, bits...)
	}
	if b.Give(13, nought) != 1 { // there may be more later
		t.Error("no more")
	}
	holds(t, b, 1, true, false, true, false)
	if b.Meet(13, one) || !b.Meet(13, nought) || b.Meet(13, nought) || b.Meet(17, one) {
		t.Errorf("%d left", b.Left())
	}
	holds(t, b, 0, true, false, true, false)
}

func TestP18_1MeetTellsNamesApartByTheirBits(t *testing.T) {
	for _, p := range []pledge.Plan{{0, 1, 0}, {7, 4, 1}, {-9, 64, 63}, {math.MaxInt, 5, 4}} {
		for _, bit := range []bool{false, true} {
			b := made(t, p)
			b.Give(p.Offset, oneWith(t, p, bit))
			for _, id := range numbers(300) {
				if wantBit(p, id) != bit && b.Meet(p.Offset, id) {
					t.Errorf("%+v: %x is met", p, id)
				}
			}
			holds(t, b, 1, bit)
			if !b.Meet(p.Offset, oneWith(t, p, bit)) {
				t.Errorf("%+v: %t isn't met", p, bit)
			}
			holds(t, b, 0, bit)
		}
	}
}

func TestP18_1NilBook(t *testing.T) {
	var b *pledge.Book
	for _, height := range edges {
		if b.Give(height, numbers(80)...) != 0 || b.Give(height) != 0 || b.Meet(height, number(1)) || b.Meet(height, api.Hash{}) {
			t.Errorf("%d", height)
		}
	}
	holds(t, b, 0)
}

// step: one deed to a book and its model, at random; both must answer alike.
func step(t testing.TB, r *rand.Rand, b *pledge.Book, m *model) {
	t.Helper()
	height := r.Intn(400) - 20
	if r.Intn(6) == 0 {
		height = edges[r.Intn(len(edges))]
	}
	if r.Intn(3) == 0 {
		names := make([]api.Hash, r.Intn(70))
		for i := range names {
			names[i] = anyName(r)
		}
		same := slices.Clone(names)
		if got, want := b.Give(height, names...), m.give(height, names...); got != want || !slices.Equal(names, same) {
			t.Fatalf("%+v: %d of %d from %d on, not %d", m.plan, got, len(names), height, want)
		}
		return
	}
	for range r.Intn(20) {
		id := anyName(r)
		if got, want := b.Meet(height, id), m.meet(height, id); got != want {
			t.Fatalf("%+v: %t of %x at %d", m.plan, got, id, height)
		}
		height++
	}
}

func TestP18_1AnyOrder(t *testing.T) {
	r := rand.New(rand.NewSource(181))
	for round := range 60 {
		period := 1 + r.Intn([]int{2, 8, 64}[round%3])
		p := pledge.Plan{Salt: int(r.Uint64()), Period: period, Offset: r.Intn(period)}
		b, m := made(t, p), &model{plan: p}
		other, n := made(t, p), &model{plan: p} // two books know nothing of one another
		for range 120 {
			step(t, r, b, m)
			holds(t, b, len(m.left), m.given...)
			if r.Intn(3) == 0 {
				step(t, r, other, n)
			}
			holds(t, other, len(n.left), n.given...)
		}
	}
}

func TestP18_1AskingChangesNothing(t *testing.T) {
	p := pledge.Plan{Salt: 5, Period: 3, Offset: 2}
	b, other := made(t, p), made(t, p)
	b.Give(0, numbers(30)...)
	other.Give(0, numbers(30)...)
	for at, id := range numbers(40) {
		for range 3 {
			b.Bits()
			b.Left()
			b.Given()
			p.Bit(id)
			p.Due(at)
		}
		if b.Meet(at, id) != other.Meet(at, id) || b.Left() != other.Left() {
			t.Errorf("%d", at)
		}
	}
}

func TestP18_1WhatIsHandedInStaysAndIsntKept(t *testing.T) {
	p := pledge.Plan{Salt: 11, Period: 2, Offset: 0}
	names := numbers(100)
	var want []bool
	for at := 0; at < 80; at += 2 {
		want = append(want, wantBit(p, names[at]))
	}
	q := p
	b := made(t, q)
	q.Salt, q.Period, q.Offset = 12, 3, 1
	if b.Give(0, names[:80]...) != 40 || !slices.Equal(names, numbers(100)) {
		t.Errorf("%d", b.Given())
	}
	clear(names)
	holds(t, b, 40, want...)
	for at, id := range numbers(80) {
		if !b.Meet(at, id) {
			t.Errorf("%d isn't met", at)
		}
	}
	holds(t, b, 0, want...)
}

func TestP18_1WhatIsToldIsNew(t *testing.T) {
	p := pledge.Plan{Salt: 1, Period: 1}
	names := numbers(150)
	b := made(t, p)
	b.Give(0, names[:100]...)
	want := b.Bits()
	for range 2 {
		told := b.Bits()
		told = told[:cap(told)]
		for i := range told {
			told[i] = !told[i]
		}
		holds(t, b, 100, want...)
	}
	before := b.Bits()
	b.Give(100, names[100:]...)
	b.Meet(0, names[0])
	if !slices.Equal(before, want) || b.Given() != 150 || !slices.Equal(b.Bits()[:100], want) {
		t.Errorf("%t", before)
	}
}

func TestP18_2WhatWasGivenIsMetByAllPlans(t *testing.T) {
	names := numbers(200)
	for period := 1; period <= 64; period++ {
		for offset := range period {
			p := pledge.Plan{Salt: 1000*period + offset, Period: period, Offset: offset}
			b := made(t, p)
			count := 0
			for height := range names {
				if wantDue(p, height) {
					count++
				}
			}
			if b.Give(0, names...) != count || b.Left() != count {
				t.Fatalf("%+v: %d, not %d", p, b.Given(), count)
			}
			for height, id := range names {
				if !b.Meet(height, id) {
					t.Fatalf("%+v: %d isn't met", p, height)
				}
			}
			if b.Left() != 0 || b.Given() != count {
				t.Fatalf("%+v: %d of %d left", p, b.Left(), b.Given())
			}
		}
	}
}

// pieces: calls do for a list cut at random, with how many stand ahead of each piece.
func pieces(r *rand.Rand, names []api.Hash, do func(ahead int, piece []api.Hash)) {
	for at := 0; at < len(names); {
		n := min(r.Intn(65), len(names)-at)
		do(at, names[at:at+n])
		at += n
	}
}

func TestP18_2WhatWasGivenByPiecesIsMet(t *testing.T) {
	r := rand.New(rand.NewSource(182))
	for round := range 40 {
		period := 1 + r.Intn([]int{1, 5, 64}[round%3])
		p := pledge.Plan{Salt: int(r.Uint64()), Period: period, Offset: r.Intn(period)}
		names := numbers(500 + r.Intn(3000))
		start := r.Intn(1000) - 500
		if round%4 == 0 {
			start = edges[r.Intn(len(edges))] // heights go round for both
		}
		at, once, behind := made(t, p), made(t, p), made(t, p)
		once.Give(start, names...)
		pieces(r, names, func(ahead int, piece []api.Hash) {
			at.Give(start+ahead, piece...)
			behind.Give(start+ahead, piece...)
			for i, id := range piece { // one that is met as soon as it is given
				if !behind.Meet(start+ahead+i, id) {
					t.Fatalf("%+v, from %d: %d isn't met at once", p, start, ahead+i)
				}
			}
		})
		if !slices.Equal(at.Bits(), once.Bits()) || !slices.Equal(behind.Bits(), once.Bits()) {
			t.Fatalf("%+v, from %d: %d, %d, %d", p, start, at.Given(), behind.Given(), once.Given())
		}
		for i, id := range names {
			if !at.Meet(start+i, id) || !once.Meet(start+i, id) {
				t.Fatalf("%+v, from %d: %d isn't met", p, start, i)
			}
		}
		if at.Left() != 0 || once.Left() != 0 || behind.Left() != 0 {
			t.Fatalf("%+v, from %d: %d, %d, %d left", p, start, at.Left(), once.Left(), behind.Left())
		}
	}
}

// heap: how many bytes are held.
func heap() int {
	runtime.GC()
	runtime.GC()
	var m runtime.MemStats
	runtime.ReadMemStats(&m)
	return int(m.HeapAlloc)
}

// room: how many bytes a book holds at most: given bits of so many heights by pieces, when these are met, and when they were told.
func room(t testing.TB, p pledge.Plan, heights int) int {
	t.Helper()
	names := numbers(api.MaxHeaders)
	before := heap()
	b := made(t, p)
	for at := 0; at < heights; at += len(names) {
		b.Give(at, names...)
	}
	most := heap() - before
	for at := range heights {
		if !b.Meet(at, names[at%len(names)]) {
			t.Fatalf("%+v: %d isn't met", p, at)
		}
	}
	most = max(most, heap()-before)
	b.Bits()
	most = max(most, heap()-before)
	if b.Left() != 0 || b.Given() != heights/p.Period {
		t.Fatalf("%+v: %d of %d left", p, b.Left(), b.Given())
	}
	runtime.KeepAlive(names)
	return most
}

func TestP18_2Room(t *testing.T) {
	const heights = 1 << 17
	for _, p := range []pledge.Plan{{7, 1, 0}, {7, 2, 1}, {7, 64, 3}} {
		may := heights/p.Period/8 + 4096 // some words, and that memory comes in whole pages
		least := math.MaxInt
		for try := 0; try < 5 && least > may; try++ { // what else goes on holds memory too, now and then
			least = min(least, room(t, p, heights))
		}
		if least > may {
			t.Errorf("%+v: %d bytes, not %d", p, least, may)
		}
	}
}

func TestP18_2RoomOfASmallBook(t *testing.T) {
	const count, may = 2000, 400 // fifty words each
	names := numbers(8)
	books := make([]*pledge.Book, count)
	before := heap()
	for i := range books {
		books[i] = made(t, pledge.Plan{Salt: i, Period: 1})
		books[i].Give(0, names...)
	}
	if took := heap() - before; took > count*may {
		t.Errorf("%d bytes, not %d", took/count, may)
	}
	runtime.KeepAlive(books)
}
