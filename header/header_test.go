package header_test

import (
	"crypto/sha256"
	"encoding/binary"
	"encoding/hex"
	"math"
	"math/big"
	"math/rand"
	"slices"
	"strings"
	"testing"

	"trailhead/api"
	"trailhead/digest"
	"trailhead/header"
	"trailhead/scroll"
)

// noughts are the bytes of an empty header.
var noughts = strings.Repeat("\x00", 80)

// versions, numbers are what a header may have about the edges; badVersions, badNumbers what it may not.
var (
	versions    = []int{math.MinInt32, math.MinInt32 + 1, -0x01020304, -256, -2, -1, 0, 1, 2, 255, 256, 0x20000000, 0x01020304, math.MaxInt32 - 1, math.MaxInt32}
	numbers     = []int{0, 1, 255, 256, 0x01020304, 0x1d00ffff, math.MaxInt32, math.MaxInt32 + 1, 0xfffefdfc, math.MaxUint32 - 1, math.MaxUint32}
	badVersions = []int{math.MinInt, math.MinInt + 1, -1 << 40, -1 << 32, math.MinInt32 - 1, math.MaxInt32 + 1, math.MaxUint32, 1 << 32, 1 << 40, math.MaxInt}
	badNumbers  = []int{math.MinInt, -1 << 40, -1 << 32, math.MinInt32, -2, -1, 1 << 32, 1<<32 + 1, 1<<32 + 0x1d00ffff, 1 << 40, math.MaxInt}
)

// name: a name of other bytes for each number.
func name(seed int) api.Hash {
	var out api.Hash
	for i := range out {
		out[i] = byte(seed + 7*i)
	}
	return out
}

// goods: headers that can be: one with each of the edges, others of all numbers.
func goods() []api.Header {
	plain := api.Header{Version: 1, Prev: name(1), Root: name(2), Time: 1231006505, Bits: 0x207fffff, Nonce: 5}
	out := []api.Header{{}, plain, {Prev: name(9)}, {Root: name(9)}}
	for _, n := range versions {
		h := plain
		h.Version = n
		out = append(out, h, api.Header{Version: n})
	}
	for _, n := range numbers {
		inTime, inBits, inNonce := plain, plain, plain
		inTime.Time, inBits.Bits, inNonce.Nonce = n, n, n
		out = append(out, inTime, inBits, inNonce, api.Header{Time: n}, api.Header{Bits: n}, api.Header{Nonce: n}, api.Header{Time: n, Bits: n, Nonce: n})
	}
	r := rand.New(rand.NewSource(6))
	for i := range 200 {
		out = append(out, api.Header{Version: int(int32(r.Uint32())), Prev: name(i), Root: name(r.Int()), Time: int(r.Uint32()), Bits: int(r.Uint32()), Nonce: int(r.Uint32())})
	}
	return out
}

// bads: headers that can't be, each by one number of one that can, or by all.
func bads() []api.Header {
	plain := api.Header{Version: 1, Prev: name(1), Root: name(2), Time: 1231006505, Bits: 0x207fffff, Nonce: 5}
	var out []api.Header
	for _, n := range badVersions {
		h := plain
		h.Version = n
		out = append(out, h, api.Header{Version: n})
	}
	for _, n := range badNumbers {
		inTime, inBits, inNonce := plain, plain, plain
		inTime.Time, inBits.Bits, inNonce.Nonce = n, n, n
		out = append(out, inTime, inBits, inNonce, api.Header{Time: n}, api.Header{Bits: n}, api.Header{Nonce: n}, api.Header{Version: n << 8, Time: n, Bits: n, Nonce: n})
	}
	return out
}

// wantBytes: the bytes of a header that can be, by another's numbers as bytes.
func wantBytes(h api.Header) string {
	out := binary.LittleEndian.AppendUint32(nil, uint32(h.Version))
	out = append(out, h.Prev[:]...)
	out = append(out, h.Root[:]...)
	for _, n := range []int{h.Time, h.Bits, h.Nonce} {
		out = binary.LittleEndian.AppendUint32(out, uint32(n))
	}
	return string(out)
}

// wantId: the name of a header that can be, by another's SHA-256.
func wantId(h api.Header) api.Hash {
	inner := sha256.Sum256([]byte(wantBytes(h)))
	return sha256.Sum256(inner[:])
}

// wantMeets: whether a name, as a number without bounds, isn't above the target of bits that are neither below 0 nor too great.
func wantMeets(h api.Hash, bits int) bool {
	slices.Reverse(h[:])
	target := big.NewInt(int64(bits & 0x7fffff))
	if size := bits >> 24; size >= 3 {
		target.Lsh(target, uint(8*(size-3)))
	} else {
		target.Rsh(target, uint(8*(3-size)))
	}
	return new(big.Int).SetBytes(h[:]).Cmp(target) <= 0
}

// written: what Write puts behind a beginning.
func written(beginning string, list ...api.Header) string {
	p := &scroll.Pen{}
	p.Raw(beginning)
	for _, h := range list {
		header.Write(p, h)
	}
	return p.Text()
}

// parsed: the name of digits.
func parsed(t *testing.T, digits string) api.Hash {
	t.Helper()
	out, e := digest.Parse(digits)
	if e != api.OK {
		t.Fatalf("%s is no name", digits)
	}
	return out
}

// firstTwo: the first two blocks of all.
func firstTwo(t *testing.T) (api.Header, api.Header) {
	t.Helper()
	return api.Header{
		Version: 1,
		Root:    parsed(t, "4a5e1e4baab89f3a32518a88c31bc87f618f76673e2cc77ab2127b7afdeda33b"),
		Time:    1231006505, Bits: 0x1d00ffff, Nonce: 2083236893,
	}, api.Header{
		Version: 1,
		Prev:    parsed(t, "000000000019d6689c085ae165831e934ff763ae46a2a6c172b3f1b60a8ce26f"),
		Root:    parsed(t, "0e3e2357e806b6cdb1f70b54c3a3a17b6714ee1f0e68bebb44a74b1efd512098"),
		Time:    1231469665, Bits: 0x1d00ffff, Nonce: 2573394689,
	}
}

func TestP6_1TheFirstBlocksOfAll(t *testing.T) {
	first, second := firstTwo(t)
	for _, c := range []struct {
		h         api.Header
		bytes, id string
	}{
		{
			first,
			"01000000" + strings.Repeat("00", 32) + "3ba3edfd7a7b12b27ac72c3e67768f617fc81bc3888a51323a9fb8aa4b1e5e4a" + "29ab5f49" + "ffff001d" + "1dac2b7c",
			"000000000019d6689c085ae165831e934ff763ae46a2a6c172b3f1b60a8ce26f",
		},
		{
			second,
			"01000000" + "6fe28c0ab6f1b372c1a6a246ae63f74f931e8365e15a089c68d6190000000000" + "982051fd1e4ba744bbbe680e1fee14677ba1a3c3540bf7b1cdb606e857233e0e" + "61bc6649" + "ffff001d" + "01e36299",
			"00000000839a8e6886ab5951d76f411475428afc90947ee320161bbf18eb6048",
		},
	} {
		s, e := header.Bytes(c.h)
		if e != api.OK || hex.EncodeToString([]byte(s)) != c.bytes {
			t.Errorf("%x, %d", s, e)
		}
		if got := digest.Show(header.Id(c.h)); got != c.id {
			t.Errorf("%s", got)
		}
		if h, e := header.Of(s); e != api.OK || h != c.h {
			t.Errorf("%+v, %d", h, e)
		}
	}
	if !header.Follows(first, second) || header.Follows(second, first) {
		t.Error("the second hangs on the first")
	}
}

func TestP6_1AnEmptyHeader(t *testing.T) {
	if s, e := header.Bytes(api.Header{}); e != api.OK || s != noughts {
		t.Errorf("%x, %d", s, e)
	}
	if h, e := header.Of(noughts); e != api.OK || h != (api.Header{}) {
		t.Errorf("%+v, %d", h, e)
	}
	if got := header.Id(api.Header{}); got != wantId(api.Header{}) || got == (api.Hash{}) {
		t.Errorf("%x", got)
	}
	if header.Size != 80 {
		t.Errorf("%d bytes", header.Size)
	}
}

func TestP6_1HeadersThatCanBe(t *testing.T) {
	for _, h := range goods() {
		if !header.Good(h) {
			t.Errorf("%+v can't be", h)
		}
		if s, e := header.Bytes(h); e != api.OK || s != wantBytes(h) {
			t.Errorf("%+v: %x, %d", h, s, e)
		}
		if got := written("ahead", h, h); got != "ahead"+wantBytes(h)+wantBytes(h) {
			t.Errorf("%+v is written as %x", h, got)
		}
		if got := header.Id(h); got != wantId(h) {
			t.Errorf("%+v: %x", h, got)
		}
	}
}

func TestP6_1HeadersThatCannotBe(t *testing.T) {
	for _, h := range bads() {
		if header.Good(h) {
			t.Errorf("%+v can be", h)
		}
		if s, e := header.Bytes(h); e != api.ErrArg || s != "" {
			t.Errorf("%+v: %x, %d", h, s, e)
		}
		if got := written("ahead", h, api.Header{Version: 2}, h); got != "ahead"+noughts+"\x02"+noughts[1:]+noughts {
			t.Errorf("%+v is written as %x", h, got)
		}
		if got := header.Id(h); got != (api.Hash{}) {
			t.Errorf("%+v: %x", h, got)
		}
	}
}

func TestP6_1WriteByNoPen(t *testing.T) {
	header.Write(nil, api.Header{Version: 1})
	header.Write(nil, api.Header{Version: 1 << 31})
}

func TestP6_1Read(t *testing.T) {
	all := goods()
	e := scroll.On("ahead" + written("", all...) + "behind")
	e.Raw(5)
	for i, h := range all {
		if got := header.Read(e); got != h {
			t.Errorf("%+v, not %+v", got, h)
		}
		if e.Bad() || e.Left() != 80*(len(all)-i-1)+6 {
			t.Fatalf("bad %v, left %d", e.Bad(), e.Left())
		}
	}
	if got := header.Read(e); got != (api.Header{}) || !e.Bad() || e.Left() != 0 {
		t.Errorf("of six bytes: %+v, bad %v, left %d", got, e.Bad(), e.Left())
	}
}

func TestP6_1ReadOfTooFew(t *testing.T) {
	s := strings.Repeat("\xff", 80)
	for size := range 80 {
		e := scroll.On(s[:size])
		if got := header.Read(e); got != (api.Header{}) || !e.Bad() || e.Left() != 0 || e.Done() {
			t.Errorf("%d bytes: %+v, bad %v, left %d", size, got, e.Bad(), e.Left())
		}
	}
	e := scroll.On(s)
	if header.Read(e) == (api.Header{}) || !e.Done() {
		t.Error("80 bytes")
	}
}

func TestP6_1ReadByABlindEye(t *testing.T) {
	e := scroll.On(strings.Repeat("\x01", 200))
	e.Blind()
	for range 2 {
		if got := header.Read(e); got != (api.Header{}) || !e.Bad() {
			t.Errorf("%+v, bad %v", got, e.Bad())
		}
	}
	if got := header.Read(nil); got != (api.Header{}) {
		t.Errorf("by none: %+v", got)
	}
}

func TestP6_1OfEachLength(t *testing.T) {
	all := strings.Repeat("\xff\x01\x80", 80)
	for size := range len(all) {
		h, e := header.Of(all[:size])
		if size == 80 {
			if e != api.OK || wantBytes(h) != all[:80] {
				t.Errorf("%+v, %d", h, e)
			}
		} else if e != api.ErrForm || h != (api.Header{}) {
			t.Errorf("%d bytes: %+v, %d", size, h, e)
		}
	}
}

func TestP6_1OfBytesByHand(t *testing.T) {
	one, other := name(1), name(2)
	s := "\xfe\xff\xff\xff" + string(one[:]) + string(other[:]) + "\x01\x02\x03\x04" + "\xff\xff\xff\xff" + "\x00\x00\x00\x80"
	want := api.Header{Version: -2, Prev: one, Root: other, Time: 0x04030201, Bits: 1<<32 - 1, Nonce: 1 << 31}
	if h, e := header.Of(s); e != api.OK || h != want {
		t.Errorf("%+v, %d", h, e)
	}
	want.Version = math.MinInt32
	if h, e := header.Of("\x00\x00\x00\x80" + s[4:]); e != api.OK || h != want {
		t.Errorf("%+v, %d", h, e)
	}
	want.Version = math.MaxInt32
	if h, e := header.Of("\xff\xff\xff\x7f" + s[4:]); e != api.OK || h != want {
		t.Errorf("%+v, %d", h, e)
	}
}

// line: headers, each on the one ahead of it.
func line(size int) []api.Header {
	var out []api.Header
	prev := name(7)
	for i := range size {
		h := api.Header{Version: 1, Prev: prev, Root: name(i), Time: i}
		prev = wantId(h)
		out = append(out, h)
	}
	return out
}

func TestP6_1Follows(t *testing.T) {
	all := line(20)
	for from := range all {
		for to := from; to <= len(all); to++ {
			if !header.Follows(all[from:to]...) {
				t.Errorf("%d to %d", from, to)
			}
		}
	}
	if !header.Follows() || !header.Follows(nil...) {
		t.Error("of none")
	}
	for i := range all {
		one := slices.Clone(all)
		one[i].Prev[31] ^= 0x80 // its own Prev, so its name too
		if header.Follows(one...) {
			t.Errorf("the %d-th is another one", i)
		}
		if gone := slices.Delete(slices.Clone(all), i, i+1); header.Follows(gone...) != (i == 0 || i == len(all)-1) {
			t.Errorf("the %d-th is gone", i)
		}
		if twice := slices.Insert(slices.Clone(all), i, all[i]); header.Follows(twice...) {
			t.Errorf("the %d-th is there twice", i)
		}
	}
	slices.Reverse(all)
	if header.Follows(all...) {
		t.Error("the other way round")
	}
}

func TestP6_1FollowsOfOneAlone(t *testing.T) {
	for _, h := range append(goods(), bads()...) {
		if !header.Follows(h) {
			t.Errorf("%+v alone", h)
		}
		next := api.Header{Prev: header.Id(h)}
		if !header.Follows(h, next) {
			t.Errorf("behind %+v", h)
		}
		next.Prev[0]++
		if header.Follows(h, next) {
			t.Errorf("not behind %+v", h)
		}
	}
}

func TestP6_1FollowsOfSomeThatCannotBe(t *testing.T) {
	bad, other := api.Header{Version: 1 << 31}, api.Header{Time: -1}
	good := api.Header{Version: 3}
	for i, c := range []struct {
		list []api.Header
		want bool
	}{
		{[]api.Header{bad, good}, true}, // noughts is its name
		{[]api.Header{bad, other, bad, bad, good}, true},
		{[]api.Header{bad, {Prev: name(1)}}, false},
		{[]api.Header{good, bad}, false},
		{[]api.Header{good, {Nonce: -1, Prev: wantId(good)}}, true}, // the last one's own name isn't asked for
		{[]api.Header{good, {Nonce: -1, Prev: wantId(good)}, bad}, true},
		{[]api.Header{good, {Nonce: -1, Prev: wantId(good)}, {Prev: name(1)}}, false},
	} {
		if header.Follows(c.list...) != c.want {
			t.Errorf("%d: not %v", i, c.want)
		}
	}
}

func TestP6_1FollowsChangesNothing(t *testing.T) {
	all := line(5)
	want := slices.Clone(all)
	if !header.Follows(all[:3]...) || !slices.Equal(all, want) {
		t.Errorf("%+v", all)
	}
}

// wantSeek: what Seek answers, of a header that can be, with bits that are a target.
func wantSeek(h api.Header, tries int) (api.Header, bool) {
	for range tries {
		if wantMeets(wantId(h), h.Bits) {
			return h, true
		}
		h.Nonce++
		if h.Nonce == 1<<32 {
			h.Nonce = 0
		}
	}
	return h, false
}

// sought: that Seek answers what it should.
func sought(t *testing.T, h api.Header, tries int, want api.Header, found bool) {
	t.Helper()
	if got, ok := header.Seek(h, tries); got != want || ok != found {
		t.Errorf("%d tries of %+v: %+v, %v; not %+v, %v", tries, h, got, ok, want, found)
	}
}

func TestP6_1SeekOfTheFirstBlocks(t *testing.T) {
	first, second := firstTwo(t)
	for _, want := range []api.Header{first, second} {
		for back := range 20 {
			h := want
			h.Nonce -= back
			for tries := range back + 1 {
				next := h
				next.Nonce += tries
				sought(t, h, tries, next, false)
			}
			for _, tries := range []int{back + 1, back + 2, 1 << 16} {
				sought(t, h, tries, want, true)
			}
		}
	}
}

func TestP6_1SeekOfTargets(t *testing.T) {
	// by the easier ones the first number may do, by the harder ones none
	for _, bits := range []int{0x2100ffff, 0x2200007f, 0x207fffff, 0x20100000, 0x20010000, 0x1f7fffff, 0x1f0fffff, 0x03123456, 0x01010000} {
		for seed := range 8 {
			h := api.Header{Version: seed, Root: name(seed), Time: 1 + seed, Bits: bits, Nonce: seed * 1000}
			for _, tries := range []int{0, 1, 2, 3, 10, 300} {
				want, found := wantSeek(h, tries)
				sought(t, h, tries, want, found)
			}
		}
	}
}

func TestP6_1SeekGoesRound(t *testing.T) {
	for seed := range 10 {
		for _, nonce := range []int{1<<32 - 1, 1<<32 - 2, 1<<32 - 5} {
			h := api.Header{Root: name(seed), Bits: 0x200fffff, Nonce: nonce}
			for _, tries := range []int{0, 1, 2, 5, 6, 500} {
				want, found := wantSeek(h, tries)
				sought(t, h, tries, want, found)
			}
			h.Bits = 0x03000001
			sought(t, h, 7, api.Header{Root: h.Root, Bits: h.Bits, Nonce: nonce + 7 - 1<<32}, false)
		}
	}
	h := api.Header{Bits: 0x03000001, Nonce: 1<<32 - 1}
	sought(t, h, 1, api.Header{Bits: h.Bits}, false)
}

func TestP6_1SeekByNoTries(t *testing.T) {
	for _, h := range append(goods(), bads()...) {
		for _, tries := range []int{0, -1, -2, -1 << 32, math.MinInt} {
			sought(t, h, tries, h, false)
		}
	}
}

func TestP6_1SeekOfWhatCannotBe(t *testing.T) {
	for _, h := range bads() {
		for _, tries := range []int{1, 2, 1000} {
			sought(t, h, tries, h, false)
		}
	}
}

func TestP6_1SeekOfTargetsThatCannotBe(t *testing.T) {
	for _, bits := range []int{
		0x20ffffff, 0x03800001, 0x04923456, 0x01803456, 0xffffffff, // below 0
		0x23000001, 0x22000100, 0x2200ffff, 0x21010000, 0x217fffff, 0xff7fffff, 0xff000001, // too great
	} {
		for _, nonce := range []int{0, 5, 1<<32 - 1} {
			for _, tries := range []int{1, 2, 1000} {
				h := api.Header{Version: 1, Bits: bits, Nonce: nonce}
				sought(t, h, tries, h, false)
			}
		}
	}
}

func TestP6_1SeekOfATargetOf0(t *testing.T) {
	// it is neither below 0 nor too great, so it is tried, in vain
	for _, bits := range []int{0, 0x20000000, 0x20800000, 0x23000000, 0xff800000, 0x01003456, 0x00123456} {
		h := api.Header{Version: 1, Bits: bits, Nonce: 3}
		sought(t, h, 1, api.Header{Version: 1, Bits: bits, Nonce: 4}, false)
		sought(t, h, 100, api.Header{Version: 1, Bits: bits, Nonce: 103}, false)
	}
}

func TestP6_1SeekOfTheGreatestTargets(t *testing.T) {
	for _, bits := range []int{0x2100ffff, 0x220000ff} { // by most names
		for seed := range 30 {
			h := api.Header{Root: name(seed), Bits: bits}
			want, found := wantSeek(h, 3)
			sought(t, h, 3, want, found)
		}
	}
}

func TestP6_2WhatHasBytesIsReadFromThem(t *testing.T) {
	for _, h := range goods() {
		s, _ := header.Bytes(h)
		if got, e := header.Of(s); e != api.OK || got != h {
			t.Errorf("%+v, not %+v: %d", got, h, e)
		}
		e := scroll.On(written("", h))
		if got := header.Read(e); got != h || !e.Done() {
			t.Errorf("%+v, not %+v", got, h)
		}
	}
}

func TestP6_2AllBytesAreAHeaders(t *testing.T) {
	r := rand.New(rand.NewSource(7))
	bytes := make([]byte, 80)
	for range 2000 {
		r.Read(bytes)
		h, e := header.Of(string(bytes))
		if s, e2 := header.Bytes(h); e != api.OK || e2 != api.OK || !header.Good(h) || s != string(bytes) {
			t.Errorf("%x: %+v, %d, %d", bytes, h, e, e2)
		}
	}
}

func TestP6_2UnlikeHeadersHaveUnlikeBytes(t *testing.T) {
	byBytes := map[string]api.Header{}
	byName := map[api.Hash]api.Header{}
	for _, h := range goods() {
		s, _ := header.Bytes(h)
		if other, ok := byBytes[s]; ok && other != h {
			t.Errorf("%+v and %+v: %x", h, other, s)
		}
		if other, ok := byName[header.Id(h)]; ok && other != h {
			t.Errorf("%+v and %+v have one name", h, other)
		}
		byBytes[s], byName[header.Id(h)] = h, h
	}
}

func TestP6_2EachBitIsItsOwn(t *testing.T) {
	// each bit of a header's bytes turned is another header, and nothing but its own part
	base := goods()[1]
	s := wantBytes(base)
	for bit := range 8 * 80 {
		turned := []byte(s)
		turned[bit/8] ^= 1 << (bit % 8)
		h, e := header.Of(string(turned))
		again, _ := header.Bytes(h)
		if e != api.OK || h == base || again != string(turned) || header.Id(h) == header.Id(base) {
			t.Errorf("bit %d: %+v, %d", bit, h, e)
		}
		same := []bool{h.Version == base.Version, h.Prev == base.Prev, h.Root == base.Root, h.Time == base.Time, h.Bits == base.Bits, h.Nonce == base.Nonce}
		ends := []int{4, 36, 68, 72, 76, 80}
		for part, end := range ends {
			begin := 0
			if part > 0 {
				begin = ends[part-1]
			}
			if inPart := bit/8 >= begin && bit/8 < end; same[part] == inPart {
				t.Errorf("bit %d: part %d is the same: %v", bit, part, same[part])
			}
		}
	}
}
