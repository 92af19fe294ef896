package work_test

import (
	"math"
	"math/big"
	"slices"
	"testing"

	"trailhead/api"
	"trailhead/compact"
	"trailhead/whole"
	"trailhead/work"
)

const full = math.MaxUint64

// thirds are the bits of the greatest number divided by 3.
const thirds = 0x5555555555555555

// bads are numbers that are no targets in short.
var bads = []int{-1, -2, -0x1d00ffff, math.MinInt32, math.MinInt, 1 << 32, 1<<32 + 0x1d00ffff, 1<<40 + 0x207fffff, math.MaxInt}

// words are the lowest 23 bits of a target in short about the edges.
var words = []int{0, 1, 0x7f, 0xff, 0x100, 0x3456, 0x7fff, 0xffff, 0x10000, 0x123456, 0x7fff00, 0x7ffffe, 0x7fffff}

// toBig: a number as one that has no bounds; fromBig: the other way round, at most 2^256 - 1.
func toBig(a api.Num) *big.Int {
	out := new(big.Int)
	for i := 3; i >= 0; i-- {
		out.Lsh(out, 64)
		out.Or(out, new(big.Int).SetUint64(a[i]))
	}
	return out
}

func fromBig(n *big.Int) api.Num {
	if n.BitLen() > 256 {
		return api.Num{full, full, full, full}
	}
	var out api.Num
	for i := range 256 {
		out[i/64] |= uint64(n.Bit(i)) << (i % 64)
	}
	return out
}

// power: 2^n; less: a number less 1; more: and 1.
func power(n int) api.Num {
	var out api.Num
	out[n/64] = 1 << (n % 64)
	return out
}

func less(a api.Num) api.Num {
	out, _ := whole.Sub(a, whole.Of(1))
	return out
}

func more(a api.Num) api.Num {
	out, _ := whole.Add(a, whole.Of(1))
	return out
}

// numbers: about each bit's edge, patterns, and others of many lengths, the same ones at each run.
func numbers() []api.Num {
	out := []api.Num{
		{}, {2}, {3}, {10}, {full - 1, full, full, full}, {full, full, full, full}, {thirds, thirds, thirds, thirds},
		{0, full}, {0, 0, full}, {0, 0, 0, full}, {full, 0, full}, {1, 1, 1, 1}, {full, full, full, 1<<63 - 1},
		{0x0123456789abcdef, 0xfedcba9876543210, 0x1122334455667788, 0x99aabbccddeeff00},
	}
	for n := range 256 {
		out = append(out, power(n), less(power(n)), more(power(n)))
	}
	x := uint64(1)
	for size := range 257 {
		var n api.Num
		for i := range n {
			x = x*6364136223846793005 + 1442695040888963407
			n[i] = x ^ x>>31
		}
		out = append(out, whole.Down(n, size))
	}
	return out
}

// few: of all the numbers some, the edges among them.
func few() []api.Num {
	out := []api.Num{{}, {1}, {2}, {full - 1}, {full}, {full - 1, full, full, full}, {full, full, full, full}}
	for i, n := range numbers() {
		if i%19 == 0 {
			out = append(out, n)
		}
	}
	return out
}

// allShort: each size with each word, without the sign and with it, and such that are none in short.
func allShort() []int {
	var out []int
	for size := range 256 {
		for _, word := range words {
			out = append(out, size<<24|word, size<<24|1<<23|word)
		}
	}
	return append(out, bads...)
}

// wantOf: the work behind a target, in numbers without bounds.
func wantOf(target api.Num) api.Num {
	by := new(big.Int).Add(toBig(target), big.NewInt(1))
	return fromBig(by.Quo(new(big.Int).Lsh(big.NewInt(1), 256), by))
}

// wantOfBits: the work behind a target in short, read by its parts, in numbers without bounds.
func wantOfBits(bits int) api.Num {
	if bits < 0 || bits > math.MaxUint32 || bits&(1<<23) != 0 {
		return api.Num{} // below 0, or nought
	}
	size := bits >> 24
	target := big.NewInt(int64(bits & 0x7fffff))
	if size >= 3 {
		target.Lsh(target, uint(8*(size-3)))
	} else {
		target.Rsh(target, uint(8*(3-size)))
	}
	if target.Sign() == 0 || target.BitLen() > 256 {
		return api.Num{}
	}
	return wantOf(fromBig(target))
}

func TestP4_1OfByHand(t *testing.T) {
	most := whole.Most()
	for _, c := range []struct{ target, want api.Num }{
		{api.Num{}, most}, // 2^256 itself has no room
		{api.Num{1}, api.Num{0, 0, 0, 1 << 63}},
		{api.Num{2}, api.Num{thirds, thirds, thirds, thirds}},
		{api.Num{3}, api.Num{0, 0, 0, 1 << 62}},
		{api.Num{full}, api.Num{0, 0, 0, 1}},
		{api.Num{full, full, full}, api.Num{0, 1}},
		{api.Num{0, 0, 0, 0xffff0000}, api.Num{0x100010001}},
		{api.Num{full, full, full, 1<<62 - 1}, api.Num{4}},
		{api.Num{full - 1, full, full, 1<<63 - 1}, api.Num{2}},
		{api.Num{full, full, full, 1<<63 - 1}, api.Num{2}},
		{api.Num{0, 0, 0, 1 << 63}, api.Num{1}}, // rounded down
		{api.Num{thirds - 1, thirds, thirds, thirds}, api.Num{3}},
		{api.Num{thirds, thirds, thirds, thirds}, api.Num{2}},
		{less(most), api.Num{1}},
		{most, api.Num{1}},
	} {
		if got := work.Of(c.target); got != c.want {
			t.Errorf("%x: %x, not %x", c.target, got, c.want)
		}
	}
}

func TestP4_1Of(t *testing.T) {
	for _, target := range numbers() {
		if got, want := work.Of(target), wantOf(target); got != want {
			t.Errorf("%x: %x, not %x", target, got, want)
		}
	}
}

func TestP4_1OfBitsByHand(t *testing.T) {
	for _, c := range []struct {
		bits int
		want api.Num
	}{
		{0x207fffff, api.Num{2}},
		{0x1d00ffff, api.Num{0x100010001}},
		{0x03000001, api.Num{0, 0, 0, 1 << 63}},
		{0x01010000, api.Num{0, 0, 0, 1 << 63}}, // the same target in another way
		{0x01017fff, api.Num{0, 0, 0, 1 << 63}}, // what goes out below doesn't count
		{0x02000300, api.Num{0, 0, 0, 1 << 62}},
		{0x2100ffff, api.Num{1}},
		{0x220000ff, api.Num{1}},
		{0, api.Num{}},
		{0x00123456, api.Num{}},
		{0x0100ffff, api.Num{}}, // 0 by what goes out
		{0x1d000000, api.Num{}},
		{0x1d800000, api.Num{}}, // 0 with a sign
		{0x04923456, api.Num{}}, // below 0
		{0x01810000, api.Num{}},
		{0x21010000, api.Num{}}, // too great, with 0 left
		{0x22000101, api.Num{}}, // too great, with a number left
		{0x217fffff, api.Num{}},
		{0x23000001, api.Num{}},
		{0xff7fffff, api.Num{}},
		{0xffffffff, api.Num{}},
	} {
		if got := work.OfBits(c.bits); got != c.want {
			t.Errorf("%x: %x, not %x", c.bits, got, c.want)
		}
	}
}

func TestP4_1OfBits(t *testing.T) {
	for _, bits := range allShort() {
		if got, want := work.OfBits(bits), wantOfBits(bits); got != want {
			t.Errorf("%x: %x, not %x", bits, got, want)
		}
	}
}

func TestP4_1OfBitsOfNoneInShort(t *testing.T) {
	for _, bits := range bads {
		if got := work.OfBits(bits); got != (api.Num{}) {
			t.Errorf("%x: %x", bits, got)
		}
	}
}

func TestP4_1SumByHand(t *testing.T) {
	most := whole.Most()
	for _, c := range []struct {
		list []api.Num
		want api.Num
	}{
		{nil, api.Num{}},
		{[]api.Num{}, api.Num{}},
		{[]api.Num{{}}, api.Num{}},
		{[]api.Num{{5}}, api.Num{5}},
		{[]api.Num{{5}, {7}, {0, 1}}, api.Num{12, 1}},
		{[]api.Num{{full}, {1}}, api.Num{0, 1}},
		{[]api.Num{most}, most},
		{[]api.Num{less(most), {1}}, most},
		{[]api.Num{less(most), {2}}, most},
		{[]api.Num{most, {1}}, most},
		{[]api.Num{{1}, most}, most},
		{[]api.Num{most, most}, most},
		{[]api.Num{{0, 0, 0, 1 << 63}, {0, 0, 0, 1 << 63}}, most},
		{[]api.Num{most, {1}, {}}, most}, // it stays so, whatever comes behind
		{[]api.Num{most, {1}, {5}}, most},
		{[]api.Num{most, most, most, {7}}, most},
	} {
		if got := work.Sum(c.list...); got != c.want {
			t.Errorf("%x: %x, not %x", c.list, got, c.want)
		}
	}
}

func TestP4_1Sum(t *testing.T) {
	for _, a := range few() {
		for _, b := range few() {
			sum := new(big.Int).Add(toBig(a), toBig(b))
			if got := work.Sum(a, b); got != fromBig(sum) {
				t.Errorf("%x and %x: %x", a, b, got)
			}
			sum.Add(sum, toBig(a))
			if got := work.Sum(a, b, a); got != fromBig(sum) {
				t.Errorf("%x and %x, the first one twice: %x", a, b, got)
			}
		}
	}
}

func TestP4_1ChainByHand(t *testing.T) {
	const half, small = 0x03000001, 0x207fffff // 2^255; 2
	for _, c := range []struct {
		bits []int
		want api.Num
	}{
		{nil, api.Num{}},
		{[]int{}, api.Num{}},
		{[]int{small}, api.Num{2}},
		{[]int{small, 0, 0x1d00ffff}, api.Num{0x100010003}},
		{[]int{-1, 0x04923456, 0x23000001, 1 << 32}, api.Num{}},
		{[]int{-1, small, 0x22000101, small}, api.Num{4}}, // what is none has no work, and doesn't end the chain
		{[]int{half, small}, api.Num{2, 0, 0, 1 << 63}},
		{[]int{half, half}, whole.Most()},
		{[]int{half, half, small}, whole.Most()},
		{[]int{small, half, half, 0}, whole.Most()},
		{[]int{half, half, half, half}, whole.Most()},
	} {
		if got := work.Chain(c.bits...); got != c.want {
			t.Errorf("%x: %x, not %x", c.bits, got, c.want)
		}
	}
}

func TestP4_1Chain(t *testing.T) {
	all := allShort()
	for at := range all {
		bits := all[at:min(at+5, len(all))]
		sum := new(big.Int)
		for _, short := range bits {
			sum.Add(sum, toBig(wantOfBits(short)))
		}
		if got := work.Chain(bits...); got != fromBig(sum) {
			t.Errorf("%x: %x", bits, got)
		}
	}
	if got := work.Chain(slices.Repeat([]int{0x1d00ffff}, 1000)...); got != (api.Num{0x100010001 * 1000}) {
		t.Errorf("a thousand: %x", got)
	}
}

func TestP4_1NearByHand(t *testing.T) {
	most, half := whole.Most(), power(255)
	for _, c := range []struct {
		name         string
		a, b, margin api.Num
		want         bool
	}{
		{"all 0", api.Num{}, api.Num{}, api.Num{}, true},
		{"as much", api.Num{8}, api.Num{8}, api.Num{}, true},
		{"more", api.Num{9}, api.Num{8}, api.Num{}, true},
		{"less", api.Num{7}, api.Num{8}, api.Num{}, false},
		{"less by the margin", api.Num{5}, api.Num{7}, api.Num{2}, true},
		{"less by more", api.Num{5}, api.Num{8}, api.Num{2}, false},
		{"the margin alone", api.Num{}, api.Num{2}, api.Num{2}, true},
		{"a margin over words", api.Num{full}, api.Num{0, 1}, api.Num{1}, true},
		{"less over words", api.Num{full}, api.Num{1, 1}, api.Num{1}, false},
		{"the greatest", less(most), most, api.Num{1}, true},
		{"one less than the greatest", less(less(most)), most, api.Num{1}, false},
		{"2^256 in all", api.Num{1}, most, most, true},
		{"2^256 in all, half and half", half, most, half, true},
		{"above 2^256, with little left", most, api.Num{5}, api.Num{2}, true},
		{"far above it", most, most, most, true},
		{"far less", api.Num{}, most, api.Num{}, false},
	} {
		if got := work.Near(c.a, c.b, c.margin); got != c.want {
			t.Errorf("%s: %v", c.name, got)
		}
	}
}

func TestP4_1Near(t *testing.T) {
	for _, a := range few() {
		for _, margin := range few() {
			sum := new(big.Int).Add(toBig(a), toBig(margin))
			edge := fromBig(sum)
			for _, b := range append([]api.Num{edge, less(edge), more(edge)}, few()...) {
				want := sum.Cmp(toBig(b)) >= 0
				if got := work.Near(a, b, margin); got != want {
					t.Errorf("%x to %x by %x: %v", a, b, margin, got)
				}
			}
		}
	}
}

func TestP4_1ListsStayAsTheyAre(t *testing.T) {
	works := []api.Num{{1}, whole.Most(), {3}, {4}, {5}}
	kept := slices.Clone(works)
	work.Sum(works[:3]...)
	if !slices.Equal(works, kept) {
		t.Errorf("works: %x", works)
	}
	bits := []int{0x207fffff, -1, 0x03000001, 0x03000001, 7}
	keptBits := slices.Clone(bits)
	work.Chain(bits[:3]...)
	if !slices.Equal(bits, keptBits) {
		t.Errorf("targets: %x", bits)
	}
}

func TestP4_2AHarderTargetHasNoLess(t *testing.T) {
	targets := numbers()
	slices.SortFunc(targets, whole.Compare)
	for i, easy := range targets[1:] {
		hard := targets[i]
		if whole.Less(work.Of(hard), work.Of(easy)) {
			t.Errorf("%x has less than %x", hard, easy)
		}
	}
	for _, target := range targets {
		if whole.Zero(work.Of(target)) {
			t.Errorf("%x has none", target)
		}
	}
}

func TestP4_2AHarderTargetInShortHasNoLess(t *testing.T) {
	var shorts []int
	for _, bits := range allShort() {
		if _, ok := compact.Target(bits, 0x2100ffff); ok {
			shorts = append(shorts, bits)
		}
	}
	slices.SortFunc(shorts, func(a, b int) int {
		x, _ := compact.Target(a, 0x2100ffff)
		y, _ := compact.Target(b, 0x2100ffff)
		return whole.Compare(x, y)
	})
	for i, easy := range shorts[1:] {
		if whole.Less(work.OfBits(shorts[i]), work.OfBits(easy)) {
			t.Errorf("%x has less than %x", shorts[i], easy)
		}
	}
}

func TestP4_2ALongerChainHasNoLess(t *testing.T) {
	all := allShort()
	for at := range all {
		bits := all[at:min(at+8, len(all))]
		for n := range bits {
			before, behind := work.Chain(bits[:n]...), work.Chain(bits[:n+1]...)
			if whole.Less(behind, before) {
				t.Errorf("%x: %x, longer %x", bits[:n+1], before, behind)
			}
		}
	}
	list := numbers()
	for n := range list {
		if whole.Less(work.Sum(list[:n+1]...), work.Sum(list[:n]...)) {
			t.Errorf("the sum of %d is less than that of %d", n+1, n)
		}
	}
}
