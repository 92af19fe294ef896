package whole_test

import (
	"math"
	"math/big"
	"slices"
	"testing"

	"trailhead/api"
	"trailhead/whole"
)

const full = math.MaxUint64

// modulus is 2^256.
func modulus() *big.Int { return new(big.Int).Lsh(big.NewInt(1), 256) }

// toBig: a number as one that has no bounds.
func toBig(a api.Num) *big.Int {
	out := new(big.Int)
	for i := 3; i >= 0; i-- {
		out.Lsh(out, 64)
		out.Or(out, new(big.Int).SetUint64(a[i]))
	}
	return out
}

// fromBig: a number without bounds (0 or above), modulo 2^256.
func fromBig(n *big.Int) api.Num {
	rest := new(big.Int).Set(n)
	var out api.Num
	for i := range out {
		word := new(big.Int).And(rest, new(big.Int).SetUint64(full))
		out[i] = word.Uint64()
		rest.Rsh(rest, 64)
	}
	return out
}

// power: 2^n.
func power(n int) api.Num {
	var out api.Num
	out[n/64] = 1 << (n % 64)
	return out
}

// random: numbers of many lengths, the same ones at each run.
func random(count int) []api.Num {
	x := uint64(1)
	next := func() uint64 { // splitmix64
		x += 0x9e3779b97f4a7c15
		z := x
		z = (z ^ z>>30) * 0xbf58476d1ce4e5b9
		z = (z ^ z>>27) * 0x94d049bb133111eb
		return z ^ z>>31
	}
	out := make([]api.Num, count)
	for i := range out {
		for w := range out[i] {
			out[i][w] = next()
		}
		top := int(next() % 4)
		clear(out[i][top+1:])
		out[i][top] >>= next() % 64
	}
	return out
}

// smalls are numbers of one word about the edges.
var smalls = []uint64{0, 1, 2, 3, 7, 10, 255, 256, 1 << 31, 1<<32 - 1, 1 << 32, 1<<32 + 1, 1<<63 - 1, 1 << 63, 1<<63 + 1, full - 1, full}

// numbers: about each word's edges, patterns, and a few others.
func numbers() []api.Num {
	out := []api.Num{
		{}, {2}, {3}, {10}, {full - 1}, {full, full, full, full}, {full - 1, full, full, full},
		{0, full}, {0, 0, full}, {0, 0, 0, full}, {full, 0, full}, {0, full, 0, full}, {1, 1, 1, 1},
		{0x0123456789abcdef, 0xfedcba9876543210, 0x1122334455667788, 0x99aabbccddeeff00},
		{full, full, full, 1<<63 - 1}, {0, 0, 1 << 63, 1}, {1, 0, 0, 1 << 63}, {full, full, 0, 1},
	}
	for _, n := range []int{0, 1, 31, 32, 62, 63, 64, 65, 127, 128, 129, 191, 192, 193, 254, 255} {
		at := toBig(power(n))
		out = append(out, power(n), fromBig(new(big.Int).Sub(at, big.NewInt(1))), fromBig(new(big.Int).Add(at, big.NewInt(1))))
	}
	return append(out, random(40)...)
}

// pairs: each of the numbers beside each.
func pairs(t *testing.T, check func(a, b api.Num)) {
	t.Helper()
	list := numbers()
	for _, a := range list {
		for _, b := range list {
			check(a, b)
		}
		if t.Failed() {
			return
		}
	}
}

func TestP2_1OfAndMost(t *testing.T) {
	for _, n := range smalls {
		if got := whole.Of(n); got != (api.Num{n, 0, 0, 0}) {
			t.Errorf("of %d: %x", n, got)
		}
	}
	if got := whole.Most(); got != (api.Num{full, full, full, full}) {
		t.Errorf("most: %x", got)
	}
	if got := toBig(whole.Most()); got.Cmp(new(big.Int).Sub(modulus(), big.NewInt(1))) != 0 {
		t.Errorf("most: %x", got)
	}
}

func TestP2_1MostIsNewEachTime(t *testing.T) {
	m := whole.Most()
	m[0], m[3] = 0, 0
	if got := whole.Most(); got != (api.Num{full, full, full, full}) {
		t.Errorf("%x", got)
	}
}

func TestP2_1Zero(t *testing.T) {
	if !whole.Zero(api.Num{}) {
		t.Error("0 isn't 0")
	}
	for n := range 256 {
		if whole.Zero(power(n)) {
			t.Errorf("2^%d is 0", n)
		}
	}
	if whole.Zero(whole.Most()) {
		t.Error("the greatest one is 0")
	}
}

func TestP2_1Order(t *testing.T) {
	pairs(t, func(a, b api.Num) {
		want := toBig(a).Cmp(toBig(b))
		if got := whole.Compare(a, b); got != want {
			t.Errorf("%x, %x: %d, not %d", a, b, got, want)
		}
		if got := whole.Less(a, b); got != (want < 0) {
			t.Errorf("%x, %x: less: %v", a, b, got)
		}
	})
}

func TestP2_1OrderOfEachWord(t *testing.T) {
	// all words below say the other way than the one that counts
	for at := range 4 {
		var low, high api.Num
		for i := range at {
			low[i] = full
		}
		high[at] = 1
		if whole.Compare(low, high) != -1 || whole.Compare(high, low) != 1 || whole.Compare(high, high) != 0 {
			t.Errorf("word %d: %d, %d, %d", at, whole.Compare(low, high), whole.Compare(high, low), whole.Compare(high, high))
		}
		if !whole.Less(low, high) || whole.Less(high, low) || whole.Less(low, low) {
			t.Errorf("word %d: less", at)
		}
	}
}

func TestP2_1Not(t *testing.T) {
	if whole.Not(api.Num{}) != whole.Most() || whole.Not(whole.Most()) != (api.Num{}) {
		t.Error("of the ends")
	}
	if got := whole.Not(api.Num{1, 0, full, 1 << 63}); got != (api.Num{full - 1, full, 0, 1<<63 - 1}) {
		t.Errorf("%x", got)
	}
	for _, a := range numbers() {
		want := fromBig(new(big.Int).Sub(toBig(whole.Most()), toBig(a)))
		if got := whole.Not(a); got != want {
			t.Errorf("%x: %x", a, got)
		}
	}
}

func TestP2_1Add(t *testing.T) {
	pairs(t, func(a, b api.Num) {
		sum := new(big.Int).Add(toBig(a), toBig(b))
		if got, over := whole.Add(a, b); got != fromBig(sum) || over != (sum.Cmp(modulus()) >= 0) {
			t.Errorf("%x and %x: %x, %v", a, b, got, over)
		}
	})
}

func TestP2_1AddAtTheEdge(t *testing.T) {
	if s, over := whole.Add(whole.Most(), whole.Of(1)); s != (api.Num{}) || !over {
		t.Errorf("the greatest one and 1: %x, %v", s, over)
	}
	if s, over := whole.Add(whole.Most(), api.Num{}); s != whole.Most() || over {
		t.Errorf("the greatest one and 0: %x, %v", s, over)
	}
	if s, over := whole.Add(whole.Most(), whole.Most()); s != (api.Num{full - 1, full, full, full}) || !over {
		t.Errorf("the greatest one twice: %x, %v", s, over)
	}
	if s, over := whole.Add(api.Num{full, full, full}, whole.Of(1)); s != (api.Num{0, 0, 0, 1}) || over {
		t.Errorf("a carry through three words: %x, %v", s, over)
	}
}

func TestP2_1Sub(t *testing.T) {
	pairs(t, func(a, b api.Num) {
		left := new(big.Int).Sub(toBig(a), toBig(b))
		below := left.Sign() < 0
		if below {
			left.Add(left, modulus())
		}
		if got, e := whole.Sub(a, b); got != fromBig(left) || e != below {
			t.Errorf("%x less %x: %x, %v", a, b, got, e)
		}
	})
}

func TestP2_1SubAtTheEdge(t *testing.T) {
	if s, below := whole.Sub(api.Num{}, whole.Of(1)); s != whole.Most() || !below {
		t.Errorf("0 less 1: %x, %v", s, below)
	}
	if s, below := whole.Sub(whole.Most(), whole.Most()); s != (api.Num{}) || below {
		t.Errorf("the greatest one less itself: %x, %v", s, below)
	}
	if s, below := whole.Sub(api.Num{0, 0, 0, 1}, whole.Of(1)); s != (api.Num{full, full, full, 0}) || below {
		t.Errorf("a borrow through three words: %x, %v", s, below)
	}
}

func TestP2_1Sum(t *testing.T) {
	list := numbers()
	for size := range len(list) + 1 {
		sum := new(big.Int)
		for _, a := range list[:size] {
			sum.Add(sum, toBig(a))
		}
		if got, over := whole.Sum(list[:size]...); got != fromBig(sum) || over != (sum.Cmp(modulus()) >= 0) {
			t.Errorf("of %d: %x, %v", size, got, over)
		}
	}
	pairs(t, func(a, b api.Num) {
		sum := new(big.Int).Add(toBig(a), toBig(b))
		sum.Add(sum, toBig(a))
		if got, over := whole.Sum(a, b, a); got != fromBig(sum) || over != (sum.Cmp(modulus()) >= 0) {
			t.Errorf("%x, %x: %x, %v", a, b, got, over)
		}
	})
}

func TestP2_1SumAtTheEdge(t *testing.T) {
	most, one := whole.Most(), whole.Of(1)
	for _, c := range []struct {
		list []api.Num
		want api.Num
		over bool
	}{
		{nil, api.Num{}, false},
		{[]api.Num{}, api.Num{}, false},
		{[]api.Num{{}}, api.Num{}, false},
		{[]api.Num{most}, most, false},
		{[]api.Num{{}, most, {}}, most, false},
		{[]api.Num{most, one}, api.Num{}, true},
		{[]api.Num{one, most, one, {}, {}}, one, true}, // above on the way alone: the last steps aren't
		{[]api.Num{most, most, most, {4}}, one, true},
		{[]api.Num{power(255), power(255)}, api.Num{}, true},
		{[]api.Num{power(255), power(254), power(254)}, api.Num{}, true},
		{[]api.Num{power(255), power(254), power(253)}, api.Num{0, 0, 0, 7 << 61}, false},
	} {
		if got, over := whole.Sum(c.list...); got != c.want || over != c.over {
			t.Errorf("%x: %x, %v", c.list, got, over)
		}
	}
}

func TestP2_1SumLeavesItsList(t *testing.T) {
	list := append(make([]api.Num, 0, 200), numbers()...)
	was := slices.Clone(list[:cap(list)])
	first, _ := whole.Sum(list...)
	if !slices.Equal(list[:cap(list)], was) {
		t.Error("the list was changed")
	}
	if again, _ := whole.Sum(list...); again != first {
		t.Errorf("%x, then %x", first, again)
	}
}

func TestP2_1Times(t *testing.T) {
	by := slices.Clone(smalls)
	for _, a := range random(20) {
		by = append(by, a[0], a[1])
	}
	for _, a := range numbers() {
		for _, n := range by {
			product := new(big.Int).Mul(toBig(a), new(big.Int).SetUint64(n))
			if got, over := whole.Times(a, n); got != fromBig(product) || over != (product.Cmp(modulus()) >= 0) {
				t.Errorf("%x by %x: %x, %v", a, n, got, over)
			}
		}
	}
}

func TestP2_1TimesAtTheEdge(t *testing.T) {
	for _, c := range []struct {
		a    api.Num
		by   uint64
		want api.Num
		over bool
	}{
		{whole.Most(), 0, api.Num{}, false},
		{whole.Most(), 1, whole.Most(), false},
		{whole.Most(), 2, api.Num{full - 1, full, full, full}, true},
		{whole.Most(), full, api.Num{1, full, full, full}, true},
		{api.Num{full}, full, api.Num{1, full - 1}, false},
		{api.Num{full, full, full}, full, api.Num{1, full, full, full - 1}, false},
		{power(255), 2, api.Num{}, true},
		{power(254), 2, power(255), false},
		{power(192), full, api.Num{0, 0, 0, full}, false},
		{power(193), full, api.Num{0, 0, 0, full - 1}, true},
	} {
		if got, over := whole.Times(c.a, c.by); got != c.want || over != c.over {
			t.Errorf("%x by %x: %x, %v", c.a, c.by, got, over)
		}
	}
}

func TestP2_1Over(t *testing.T) {
	by := slices.Clone(smalls[1:])
	for _, a := range random(20) {
		if a[0] != 0 {
			by = append(by, a[0])
		}
	}
	for _, a := range numbers() {
		for _, n := range by {
			quo, rest := new(big.Int).QuoRem(toBig(a), new(big.Int).SetUint64(n), new(big.Int))
			if got, left := whole.Over(a, n); got != fromBig(quo) || left != rest.Uint64() {
				t.Errorf("%x by %x: %x, %x", a, n, got, left)
			}
		}
	}
}

func TestP2_1OverAtTheEdge(t *testing.T) {
	for _, a := range numbers() {
		if got, left := whole.Over(a, 0); got != (api.Num{}) || left != 0 {
			t.Errorf("%x by 0: %x, %x", a, got, left)
		}
		if got, left := whole.Over(a, 1); got != a || left != 0 {
			t.Errorf("%x by 1: %x, %x", a, got, left)
		}
	}
	if got, left := whole.Over(whole.Most(), full); got != (api.Num{1, 1, 1, 1}) || left != 0 {
		t.Errorf("the greatest one: %x, %x", got, left)
	}
	if got, left := whole.Over(api.Num{full - 1}, full); got != (api.Num{}) || left != full-1 {
		t.Errorf("a lesser one: %x, %x", got, left)
	}
}

func TestP2_1Len(t *testing.T) {
	if whole.Len(api.Num{}) != 0 || whole.Len(whole.Most()) != 256 {
		t.Error("of the ends")
	}
	for n := range 256 {
		a := power(n)
		if got := whole.Len(a); got != n+1 {
			t.Errorf("of 2^%d: %d", n, got)
		}
		less, _ := whole.Sub(a, whole.Of(1))
		if got := whole.Len(less); got != n {
			t.Errorf("of 2^%d - 1: %d", n, got)
		}
	}
	for _, a := range numbers() {
		if got := whole.Len(a); got != toBig(a).BitLen() {
			t.Errorf("%x: %d", a, got)
		}
	}
}

func TestP2_1UpAndDown(t *testing.T) {
	for _, a := range numbers() {
		for n := range 300 {
			up := fromBig(new(big.Int).Lsh(toBig(a), uint(n)))
			if got := whole.Up(a, n); got != up {
				t.Fatalf("%x up by %d: %x", a, n, got)
			}
			down := fromBig(new(big.Int).Rsh(toBig(a), uint(n)))
			if got := whole.Down(a, n); got != down {
				t.Fatalf("%x down by %d: %x", a, n, got)
			}
		}
	}
}

func TestP2_1UpAndDownByOtherNumbers(t *testing.T) {
	for _, a := range numbers() {
		for _, n := range []int{0, -1, -63, -64, -65, -256, math.MinInt32, math.MinInt + 1, math.MinInt} {
			if up, down := whole.Up(a, n), whole.Down(a, n); up != a || down != a {
				t.Errorf("%x by %d: %x, %x", a, n, up, down)
			}
		}
		for _, n := range []int{256, 257, 319, 320, 1 << 20, math.MaxInt32, math.MaxInt - 63, math.MaxInt} {
			if up, down := whole.Up(a, n), whole.Down(a, n); up != (api.Num{}) || down != (api.Num{}) {
				t.Errorf("%x by %d: %x, %x", a, n, up, down)
			}
		}
	}
}

func TestP2_1Quo(t *testing.T) {
	pairs(t, func(a, b api.Num) {
		if b == (api.Num{}) {
			return
		}
		quo, rest := new(big.Int).QuoRem(toBig(a), toBig(b), new(big.Int))
		if got, left := whole.Quo(a, b); got != fromBig(quo) || left != fromBig(rest) {
			t.Errorf("%x by %x: %x, %x", a, b, got, left)
		}
	})
}

func TestP2_1QuoAtTheEdge(t *testing.T) {
	most, one := whole.Most(), whole.Of(1)
	for _, a := range numbers() {
		if got, left := whole.Quo(a, api.Num{}); got != (api.Num{}) || left != (api.Num{}) {
			t.Errorf("%x by 0: %x, %x", a, got, left)
		}
		if got, left := whole.Quo(a, one); got != a || left != (api.Num{}) {
			t.Errorf("%x by 1: %x, %x", a, got, left)
		}
		if a == (api.Num{}) {
			continue
		}
		if got, left := whole.Quo(a, a); got != one || left != (api.Num{}) {
			t.Errorf("%x by itself: %x, %x", a, got, left)
		}
		less, _ := whole.Sub(a, one)
		if got, left := whole.Quo(less, a); got != (api.Num{}) || left != less {
			t.Errorf("one less than %x by that: %x, %x", a, got, left)
		}
	}
	if got, left := whole.Quo(most, power(255)); got != one || left != (api.Num{full, full, full, 1<<63 - 1}) {
		t.Errorf("by 2^255: %x, %x", got, left)
	}
	if got, left := whole.Quo(most, api.Num{0, 0, 1}); got != (api.Num{full, full}) || left != (api.Num{full, full}) {
		t.Errorf("by 2^128: %x, %x", got, left)
	}
}

func TestP2_1NamesAsNumbers(t *testing.T) {
	for at := range 32 {
		for value := range 256 {
			var h api.Hash
			h[at] = byte(value)
			var want api.Num
			want[at/8] = uint64(value) << (at % 8 * 8)
			if got := whole.FromHash(h); got != want {
				t.Fatalf("byte %d is %x: %x", at, value, got)
			}
			if got := whole.Hash(want); got != h {
				t.Fatalf("%x: %x", want, got)
			}
		}
	}
}

func TestP2_1NamesOfAllBytes(t *testing.T) {
	var h api.Hash
	for i := range h {
		h[i] = byte(i + 1)
	}
	n := api.Num{0x0807060504030201, 0x100f0e0d0c0b0a09, 0x1817161514131211, 0x201f1e1d1c1b1a19}
	if got := whole.FromHash(h); got != n {
		t.Errorf("%x", got)
	}
	if got := whole.Hash(n); got != h {
		t.Errorf("%x", got)
	}
	for _, a := range numbers() {
		name := whole.Hash(a)
		slices.Reverse(name[:])
		if want := toBig(a).FillBytes(make([]byte, 32)); !slices.Equal(name[:], want) {
			t.Errorf("%x: %x", a, name)
		}
	}
}

// product: of two numbers, put together of what one times each word of the other is; true: it is above the greatest number.
func product(a, b api.Num) (api.Num, bool) {
	var out api.Num
	above := false
	for i, word := range b {
		part, over := whole.Times(a, word)
		moved := whole.Up(part, 64*i)
		lost := whole.Down(moved, 64*i) != part
		sum, more := whole.Add(out, moved)
		out, above = sum, above || over || lost || more
	}
	return out, above
}

func TestP2_2WhatIsDividedIsPutTogetherAgain(t *testing.T) {
	pairs(t, func(a, b api.Num) {
		if whole.Zero(b) {
			return
		}
		quo, rest := whole.Quo(a, b)
		times, over := product(b, quo)
		again, more := whole.Add(times, rest)
		if again != a || over || more || !whole.Less(rest, b) {
			t.Errorf("%x by %x: %x, %x", a, b, quo, rest)
		}
	})
}

func TestP2_2WhatIsDividedByASmallOneIsPutTogetherAgain(t *testing.T) {
	for _, a := range numbers() {
		for _, by := range smalls[1:] {
			quo, rest := whole.Over(a, by)
			times, over := whole.Times(quo, by)
			again, more := whole.Add(times, whole.Of(rest))
			if again != a || over || more || rest >= by {
				t.Errorf("%x by %x: %x, %x", a, by, quo, rest)
			}
			other, left := whole.Quo(a, whole.Of(by))
			if other != quo || left != whole.Of(rest) {
				t.Errorf("%x by %x: %x, %x, or %x, %x", a, by, quo, rest, other, left)
			}
		}
	}
}

func TestP2_2WhatIsMultipliedIsDividedAgain(t *testing.T) {
	for _, a := range numbers() {
		for _, by := range smalls[1:] {
			times, over := whole.Times(a, by)
			if most, _ := whole.Over(whole.Most(), by); over != whole.Less(most, a) {
				t.Errorf("%x by %x: %v", a, by, over)
			}
			if quo, rest := whole.Over(times, by); !over && (quo != a || rest != 0) {
				t.Errorf("%x by %x: %x, %x", a, by, quo, rest)
			}
		}
	}
}

func TestP2_2WhatIsAddedIsTakenAway(t *testing.T) {
	pairs(t, func(a, b api.Num) {
		sum, over := whole.Add(a, b)
		if left, below := whole.Sub(sum, b); left != a || below != over {
			t.Errorf("%x and %x, less that: %x, %v", a, b, left, below)
		}
		left, below := whole.Sub(a, b)
		if again, more := whole.Add(left, b); again != a || more != below {
			t.Errorf("%x less %x, and that: %x, %v", a, b, again, more)
		}
		if other, e := whole.Add(b, a); other != sum || e != over {
			t.Errorf("%x and %x, the other way round: %x, %v", a, b, other, e)
		}
	})
}

func TestP2_2TheSumOfAllIsTakenAway(t *testing.T) {
	list := numbers()
	left, _ := whole.Sum(list...)
	for _, a := range list {
		left, _ = whole.Sub(left, a)
	}
	if !whole.Zero(left) {
		t.Errorf("%x", left)
	}
}

func TestP2_2WhatIsTurnedOrMovedComesBack(t *testing.T) {
	for _, a := range numbers() {
		if got := whole.Not(whole.Not(a)); got != a {
			t.Errorf("%x turned twice: %x", a, got)
		}
		if got := whole.FromHash(whole.Hash(a)); got != a {
			t.Errorf("%x as a name: %x", a, got)
		}
		if sum, over := whole.Add(a, whole.Not(a)); sum != whole.Most() || over {
			t.Errorf("%x and it turned: %x, %v", a, sum, over)
		}
		room := 256 - whole.Len(a)
		if got := whole.Down(whole.Up(a, room), room); got != a {
			t.Errorf("%x moved by %d and back: %x", a, room, got)
		}
	}
}
