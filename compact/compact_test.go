package compact_test

import (
	"math"
	"math/big"
	"testing"

	"trailhead/api"
	"trailhead/compact"
	"trailhead/whole"
)

const full = math.MaxUint64

// bads are numbers that are no targets in short.
var bads = []int{-1, -2, -1 << 23, -0x1d00ffff, math.MinInt32, -1 << 32, math.MinInt + 1, math.MinInt, 1 << 32, 1<<32 + 1, 1<<32 + 0x1d00ffff, 1 << 40, math.MaxInt - 1, math.MaxInt}

// words are the lowest 23 bits about the edges.
var words = []int{0, 1, 0x12, 0x7f, 0x80, 0xfe, 0xff, 0x100, 0x101, 0x3456, 0x7fff, 0x8000, 0xfffe, 0xffff, 0x10000, 0x10001, 0x123456, 0x7f0000, 0x7fff00, 0x7ffffe, 0x7fffff}

// toBig: a number as one that has no bounds; fromBig: the other way round, modulo 2^256.
func toBig(a api.Num) *big.Int {
	out := new(big.Int)
	for i := 3; i >= 0; i-- {
		out.Lsh(out, 64)
		out.Or(out, new(big.Int).SetUint64(a[i]))
	}
	return out
}

func fromBig(n *big.Int) api.Num {
	var out api.Num
	for i := range 256 {
		out[i/64] |= uint64(n.Bit(i)) << (i % 64)
	}
	return out
}

// power: 2^n.
func power(n int) api.Num {
	var out api.Num
	out[n/64] = 1 << (n % 64)
	return out
}

// less: a number less 1.
func less(a api.Num) api.Num {
	out, _ := whole.Sub(a, whole.Of(1))
	return out
}

// allShort: each size with each word, without the sign and with it.
func allShort(check func(bits, size, word int, sign bool)) {
	for size := range 256 {
		for _, word := range words {
			check(size<<24|word, size, word, false)
			check(size<<24|1<<23|word, size, word, true)
		}
	}
}

// targets: about each bit's edge, patterns, and others of many lengths, the same ones at each run.
func targets() []api.Num {
	out := []api.Num{
		{}, {1}, {full}, {0, full}, {0, 0, full}, {0, 0, 0, full}, {full, full, full, full}, {1, 1, 1, 1}, {1, 2, 3, 0x1234560000000000},
		{0x0123456789abcdef, 0xfedcba9876543210, 0x1122334455667788, 0x99aabbccddeeff00},
	}
	for n := range 256 {
		out = append(out, power(n), less(power(n)))
		sum, _ := whole.Add(power(n), whole.Of(1))
		out = append(out, sum)
	}
	x := uint64(1)
	for size := range 257 {
		var n api.Num
		for i := range n {
			x = x*6364136223846793005 + 1442695040888963407
			n[i] = x ^ x>>31
		}
		out = append(out, whole.Down(n, size))
	}
	return out
}

func TestP3_1Good(t *testing.T) {
	for _, bits := range []int{0, 1, 0x1d00ffff, 1<<23 - 1, 1 << 23, 1<<31 - 1, 1 << 31, 1<<32 - 2, 1<<32 - 1} {
		if !compact.Good(bits) {
			t.Errorf("%x isn't", bits)
		}
	}
	for _, bits := range bads {
		if compact.Good(bits) {
			t.Errorf("%x is", bits)
		}
	}
}

func TestP3_1DecodeOfEachSize(t *testing.T) {
	allShort(func(bits, size, word int, sign bool) {
		want := big.NewInt(int64(word))
		if size >= 3 {
			want.Lsh(want, uint(8*(size-3)))
		} else {
			want.Rsh(want, uint(8*(3-size)))
		}
		over := want.BitLen() > 256
		got, below, above := compact.Decode(bits)
		if got != fromBig(want) || below != (sign && word != 0) || above != over {
			t.Errorf("%x: %x, %v, %v", bits, got, below, above)
		}
	})
}

func TestP3_1DecodeByHand(t *testing.T) {
	for _, c := range []struct {
		bits        int
		want        api.Num
		below, over bool
	}{
		{0x1d00ffff, api.Num{0, 0, 0, 0xffff0000}, false, false},
		{0x207fffff, api.Num{0, 0, 0, 0x7fffff0000000000}, false, false},
		{0x02123456, api.Num{0x1234}, false, false},
		{0x01123456, api.Num{0x12}, false, false},
		{0x00123456, api.Num{}, false, false},
		{0x03800001, api.Num{1}, true, false},
		{0x03800000, api.Num{}, false, false},
		{0x00800001, api.Num{}, true, false}, // the word itself counts, not what is left of it
		{0x01803456, api.Num{}, true, false},
		{0x2100ffff, api.Num{0, 0, 0, 0xffff << 48}, false, false},
		{0x21010000, api.Num{}, false, true},
		{0x220000ff, api.Num{0, 0, 0, 0xff << 56}, false, false},
		{0x22000100, api.Num{}, false, true},
		{0x22000101, api.Num{0, 0, 0, 1 << 56}, false, true},
		{0x23000000, api.Num{}, false, false},
		{0x23000001, api.Num{}, false, true},
		{0x23800001, api.Num{}, true, true},
		{0xff000000, api.Num{}, false, false},
		{0xff800000, api.Num{}, false, false},
		{0xff7fffff, api.Num{}, false, true},
		{0xffffffff, api.Num{}, true, true},
	} {
		if got, below, over := compact.Decode(c.bits); got != c.want || below != c.below || over != c.over {
			t.Errorf("%x: %x, %v, %v", c.bits, got, below, over)
		}
	}
}

func TestP3_1DecodeOfNoneInShort(t *testing.T) {
	for _, bits := range bads {
		if got, below, over := compact.Decode(bits); got != (api.Num{}) || below || over {
			t.Errorf("%x: %x, %v, %v", bits, got, below, over)
		}
	}
}

func TestP3_1Encode(t *testing.T) {
	for _, c := range []struct {
		n    api.Num
		want int
	}{
		{api.Num{}, 0},
		{api.Num{1}, 0x01010000},
		{api.Num{0x7f}, 0x017f0000},
		{api.Num{0x80}, 0x02008000},
		{api.Num{0xff}, 0x0200ff00},
		{api.Num{0x100}, 0x02010000},
		{api.Num{0x7fff}, 0x027fff00},
		{api.Num{0x8000}, 0x03008000},
		{api.Num{0xffff}, 0x0300ffff},
		{api.Num{0x123456}, 0x03123456},
		{api.Num{0x7fffff}, 0x037fffff},
		{api.Num{0x800000}, 0x04008000},
		{api.Num{0xffffff}, 0x0400ffff},
		{api.Num{0x1234567f}, 0x04123456},
		{api.Num{0x123456ff}, 0x04123456},
		{api.Num{0x92345678}, 0x05009234},
		{api.Num{full, 0x7f}, 0x097fffff},
		{api.Num{0, 0, 0, 0xffff0000}, 0x1d00ffff},
		{api.Num{0, 0, 0, 0x7fffff0000000000}, 0x207fffff},
		{whole.Most(), 0x2100ffff},
	} {
		if got := compact.Encode(c.n); got != c.want {
			t.Errorf("%x: %x, not %x", c.n, got, c.want)
		}
	}
}

func TestP3_1EncodeOfEachLength(t *testing.T) {
	for _, n := range targets() {
		bytes := toBig(n).Bytes() // the highest one first
		size := len(bytes)
		padded := append(bytes, 0, 0, 0)
		word := int(padded[0])<<16 | int(padded[1])<<8 | int(padded[2])
		if padded[0] >= 0x80 {
			word, size = word/256, size+1
		}
		if got := compact.Encode(n); got != size<<24+word {
			t.Errorf("%x: %x, not %x %x", n, got, size, word)
		}
	}
}

func TestP3_1Target(t *testing.T) {
	for _, c := range []struct{ bits, limit int }{
		{0x1d00ffff, 0x1d00ffff},
		{0x1d00ffff, 0x207fffff},
		{0x207fffff, 0x207fffff},
		{0x01010000, 0x01010000},
		{0x03000001, 0x01010000}, // the same target in short in another way
		{0x01010000, 0x03000001},
		{0x01017fff, 0x01010000}, // what goes out below doesn't count
		{0x2100ffff, 0x2100ffff},
		{0x220000ff, 0x2100ffff},
		{0x1d00fffe, 0x1d00ffff},
		{0x1c7fffff, 0x1d00ffff},
	} {
		want, _, _ := compact.Decode(c.bits)
		if got, ok := compact.Target(c.bits, c.limit); !ok || got != want || whole.Zero(got) {
			t.Errorf("%x of %x: %x, %v", c.bits, c.limit, got, ok)
		}
	}
}

func TestP3_1TargetRefused(t *testing.T) {
	for _, c := range []struct {
		name        string
		bits, limit int
	}{
		{"one above the limit", 0x1d010000, 0x1d00ffff},
		{"one above it in the last place", 0x03000002, 0x03000001},
		{"far above the limit", 0x207fffff, 0x1d00ffff},
		{"0", 0, 0x207fffff},
		{"0 in another way", 0x1d000000, 0x207fffff},
		{"0 with a sign", 0x1d800000, 0x207fffff},
		{"0 by what goes out", 0x0100ffff, 0x207fffff},
		{"below 0", 0x04923456, 0x207fffff},
		{"below 0, at most the limit's number", 0x1d80ffff, 0x1d00ffff},
		{"too great", 0x23000001, 0x207fffff},
		{"too great, with a small number left", 0x22000101, 0x2100ffff},
		{"no number in short", 1<<32 + 0x1d00ffff, 0x207fffff},
		{"below all that are in short", 0x1d00ffff - 1<<32, 0x207fffff},
		{"a limit of 0", 0x03000001, 0},
		{"a limit below 0", 0x03000001, 0x1d80ffff},
		{"a limit that is too great", 0x03000001, 0x217fffff},
		{"a limit that is no number in short", 0x03000001, 1<<32 + 0x207fffff},
		{"a limit below all that are in short", 0x03000001, -1},
		{"0 of a limit of 0", 0, 0},
		{"none of both", -1, -1},
	} {
		if got, ok := compact.Target(c.bits, c.limit); ok || got != (api.Num{}) {
			t.Errorf("%s: %x of %x: %x, %v", c.name, c.bits, c.limit, got, ok)
		}
	}
}

func TestP3_1TargetOfAllShortNumbers(t *testing.T) {
	for _, limit := range append([]int{0, 0x01010000, 0x037fffff, 0x1d00ffff, 0x1d80ffff, 0x207fffff, 0x2100ffff, 0x21010000, 0x23000001, 0xffffffff}, bads...) {
		most, limitBelow, limitOver := compact.Decode(limit)
		check := func(bits int) {
			n, below, over := compact.Decode(bits)
			want := !below && !over && !limitBelow && !limitOver && toBig(n).Sign() > 0 && toBig(n).Cmp(toBig(most)) <= 0
			if !want {
				n = api.Num{}
			}
			if got, ok := compact.Target(bits, limit); ok != want || got != n {
				t.Errorf("%x of %x: %x, %v", bits, limit, got, ok)
			}
		}
		allShort(func(bits, _, _ int, _ bool) { check(bits) })
		for _, bits := range bads {
			check(bits)
		}
	}
}

func TestP3_1Meets(t *testing.T) {
	for _, a := range targets() {
		name := whole.Hash(a)
		if !compact.Meets(name, a) || !compact.Meets(name, whole.Most()) || !compact.Meets(api.Hash{}, a) {
			t.Errorf("%x doesn't meet as much", a)
		}
		if !whole.Zero(a) && compact.Meets(name, less(a)) {
			t.Errorf("%x meets less", a)
		}
	}
	var h api.Hash
	h[31] = 1 // the last byte is the highest one
	if compact.Meets(h, less(power(248))) || !compact.Meets(h, power(248)) {
		t.Errorf("%x", h)
	}
	h = api.Hash{1}
	if compact.Meets(h, api.Num{}) || !compact.Meets(h, whole.Of(1)) {
		t.Errorf("%x", h)
	}
}

// rounded: a number with all bytes but its three highest ones 0 (but its two highest, where the first has its highest bit).
func rounded(n api.Num) api.Num {
	bytes := toBig(n).Bytes()
	keep := 3
	if len(bytes) > 0 && bytes[0] >= 0x80 {
		keep = 2
	}
	for i := keep; i < len(bytes); i++ {
		bytes[i] = 0
	}
	return fromBig(new(big.Int).SetBytes(bytes))
}

func TestP3_2WhatIsInShortIsReadAgain(t *testing.T) {
	for _, n := range targets() {
		bits := compact.Encode(n)
		if !compact.Good(bits) {
			t.Errorf("%x: %x isn't good", n, bits)
		}
		got, below, over := compact.Decode(bits)
		if got != rounded(n) || below || over {
			t.Errorf("%x: %x: %x, %v, %v", n, bits, got, below, over)
		}
		if again := compact.Encode(got); again != bits {
			t.Errorf("%x: %x, then %x", n, bits, again)
		}
	}
}

func TestP3_2WhatIsReadIsItsOwnTarget(t *testing.T) {
	allShort(func(bits, _, _ int, _ bool) {
		n, _, _ := compact.Decode(bits)
		short := compact.Encode(n)
		if got, below, over := compact.Decode(short); got != rounded(n) || below || over {
			t.Errorf("%x: %x, in short %x: %x, %v, %v", bits, n, short, got, below, over)
		}
	})
}
