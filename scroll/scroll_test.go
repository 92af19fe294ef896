package scroll_test

import (
	"encoding/binary"
	"math"
	"math/rand"
	"slices"
	"strings"
	"testing"

	"trailhead/api"
	"trailhead/scroll"
)

// numbers are ints about the edges of each size, of counts, and of what an int holds.
func numbers() []int {
	out := []int{
		0, 1, 2, 0x7f, 0x80, 0xfb, 0xfc, 0xfd, 0xfe, 0xff, 0x100, 0xfcff, 0xfdfd, 0xfffe, 0xffff, 0x10000, 0x10001, 0xfffffffe, 0xffffffff, 0x100000000, 0x100000001,
		0x0102030405060708, 0x08070605040302, -0x0102030405060708, 1 << 62, math.MaxInt - 1, math.MaxInt, math.MinInt, math.MinInt + 1,
	}
	for n := range 63 {
		out = append(out, 1<<n-1, 1<<n, 1<<n+1, -1<<n, -1<<n-1)
	}
	return out
}

// lowest: the lowest bytes of a number, the lowest first.
func lowest(n, size int) string {
	return string(binary.LittleEndian.AppendUint64(nil, uint64(n))[:size])
}

// counted: a count's bytes, of a number that isn't below 0.
func counted(n int) string {
	switch {
	case n >= 1<<32:
		return "\xff" + lowest(n, 8)
	case n >= 1<<16:
		return "\xfe" + lowest(n, 4)
	case n >= 0xfd:
		return "\xfd" + lowest(n, 2)
	}
	return lowest(n, 1)
}

// put: what a pen has written.
func put(write func(p *scroll.Pen)) string {
	p := &scroll.Pen{}
	write(p)
	return p.Text()
}

// name: a name of other bytes for each number.
func name(seed int) api.Hash {
	var out api.Hash
	for i := range out {
		out[i] = byte(seed + 7*i)
	}
	return out
}

// sighted: what is left, of an eye that isn't blind.
func sighted(t *testing.T, what string, e *scroll.Eye, left int) {
	t.Helper()
	if e.Bad() || e.Left() != left || e.Done() != (left == 0) {
		t.Errorf("%s: bad %v, left %d, done %v; not %d left", what, e.Bad(), e.Left(), e.Done(), left)
	}
}

// blinded: that an eye is blind, and reads nothing any more, by whatever call.
func blinded(t *testing.T, what string, e *scroll.Eye) {
	t.Helper()
	for range 2 {
		if !e.Bad() || e.Left() != 0 || e.Done() {
			t.Errorf("%s: bad %v, left %d, done %v", what, e.Bad(), e.Left(), e.Done())
		}
		for _, n := range []int{0, 1, -1, 8, math.MaxInt, math.MinInt} {
			if e.Raw(n) != "" || e.Get(n) != 0 || e.Count(n) != 0 || len(e.Names(n)) != 0 {
				t.Errorf("%s: a blind one reads by %d", what, n)
			}
		}
		if e.Wide() != 0 || e.Name() != (api.Hash{}) {
			t.Errorf("%s: a blind one reads", what)
		}
		e.Blind()
	}
}

func TestP5_1PutByHand(t *testing.T) {
	for _, c := range []struct {
		size, n int
		want    string
	}{
		{1, 0, "\x00"},
		{1, 5, "\x05"},
		{1, 0x1234, "\x34"},
		{2, 0x1234, "\x34\x12"},
		{2, -1, "\xff\xff"},
		{3, 0x01020304, "\x04\x03\x02"},
		{4, 0x01020304, "\x04\x03\x02\x01"},
		{4, -2, "\xfe\xff\xff\xff"},
		{7, -1, "\xff\xff\xff\xff\xff\xff\xff"},
		{8, 1, "\x01\x00\x00\x00\x00\x00\x00\x00"},
		{8, -1, "\xff\xff\xff\xff\xff\xff\xff\xff"},
		{8, math.MinInt, "\x00\x00\x00\x00\x00\x00\x00\x80"},
		{8, math.MaxInt, "\xff\xff\xff\xff\xff\xff\xff\x7f"},
	} {
		if got := put(func(p *scroll.Pen) { p.Put(c.size, c.n) }); got != c.want {
			t.Errorf("%d by %d: %x, not %x", c.n, c.size, got, c.want)
		}
	}
}

func TestP5_1PutOfEachSize(t *testing.T) {
	for size := 1; size <= 8; size++ {
		var all strings.Builder
		for _, n := range numbers() {
			want := lowest(n, size)
			all.WriteString(want)
			if got := put(func(p *scroll.Pen) { p.Put(size, n) }); got != want {
				t.Errorf("%d by %d: %x", n, size, got)
			}
		}
		if got := put(func(p *scroll.Pen) { p.Put(size, numbers()...) }); got != all.String() {
			t.Errorf("all by %d: %x", size, got)
		}
		if got := put(func(p *scroll.Pen) { p.Put(size) }); got != "" {
			t.Errorf("none by %d: %x", size, got)
		}
	}
}

func TestP5_1PutOfSizesThatCannotBe(t *testing.T) {
	for _, n := range numbers() {
		for _, size := range []int{0, -1, -8, math.MinInt} {
			if got := put(func(p *scroll.Pen) { p.Put(size, n, 7) }); got != lowest(n, 1)+"\x07" {
				t.Errorf("%d by %d: %x", n, size, got)
			}
		}
		for _, size := range []int{9, 10, 64, 1 << 32, math.MaxInt} {
			if got := put(func(p *scroll.Pen) { p.Put(size, n) }); got != lowest(n, 8) {
				t.Errorf("%d by %d: %x", n, size, got)
			}
		}
	}
}

func TestP5_1CountByHand(t *testing.T) {
	for _, c := range []struct {
		n    int
		want string
	}{
		{0, "\x00"},
		{1, "\x01"},
		{252, "\xfc"},
		{253, "\xfd\xfd\x00"},
		{254, "\xfd\xfe\x00"},
		{255, "\xfd\xff\x00"},
		{256, "\xfd\x00\x01"},
		{65535, "\xfd\xff\xff"},
		{65536, "\xfe\x00\x00\x01\x00"},
		{1<<32 - 1, "\xfe\xff\xff\xff\xff"},
		{1 << 32, "\xff\x00\x00\x00\x00\x01\x00\x00\x00"},
		{math.MaxInt, "\xff\xff\xff\xff\xff\xff\xff\xff\x7f"},
		{-1, "\x00"},
		{-253, "\x00"},
		{-1 << 32, "\x00"},
		{math.MinInt, "\x00"},
	} {
		if got := put(func(p *scroll.Pen) { p.Count(c.n) }); got != c.want {
			t.Errorf("%d: %x, not %x", c.n, got, c.want)
		}
	}
	for _, n := range numbers() {
		if got := put(func(p *scroll.Pen) { p.Count(n) }); got != counted(max(n, 0)) {
			t.Errorf("%d: %x", n, got)
		}
	}
}

func TestP5_1NamesAndRawOfAPen(t *testing.T) {
	one, other := name(1), name(2)
	if got := put(func(p *scroll.Pen) { p.Names(one) }); got != string(one[:]) {
		t.Errorf("one: %x", got)
	}
	if got := put(func(p *scroll.Pen) { p.Names(one, api.Hash{}, other, one) }); got != string(one[:])+strings.Repeat("\x00", 32)+string(other[:])+string(one[:]) {
		t.Errorf("four: %x", got)
	}
	if got := put(func(p *scroll.Pen) { p.Names(); p.Names(nil...); p.Raw("") }); got != "" {
		t.Errorf("none: %x", got)
	}
	for _, s := range []string{"end", "\x00", "\xff\xfe\x80", "ä€", strings.Repeat("long", 1000)} {
		if got := put(func(p *scroll.Pen) { p.Raw(s) }); got != s {
			t.Errorf("%q: %q", s, got)
		}
	}
}

func TestP5_1TextBetween(t *testing.T) {
	p := &scroll.Pen{}
	want := ""
	first := p.Text()
	for i := range 100 {
		was := p.Text()
		p.Put(2, i, -i)
		p.Count(i * 10)
		p.Names(name(i))
		p.Raw("x")
		h := name(i)
		before := want
		want += lowest(i, 2) + lowest(-i, 2) + counted(i*10) + string(h[:]) + "x"
		if p.Text() != want || p.Text() != want {
			t.Fatalf("%d: %x", i, p.Text())
		}
		if was != before {
			t.Fatalf("%d: what was answered is written over: %x", i, was)
		}
	}
	if first != "" {
		t.Errorf("of an empty one: %x", first)
	}
}

func TestP5_1PensKnowNothingOfOneAnother(t *testing.T) {
	var a, b scroll.Pen
	a.Put(1, 1)
	b.Raw("b")
	a.Raw("a")
	b.Count(300)
	if a.Text() != "\x01a" || b.Text() != "b\xfd\x2c\x01" || put(func(*scroll.Pen) {}) != "" {
		t.Errorf("%x, %x", a.Text(), b.Text())
	}
}

func TestP5_1ListsAreNotChangedOrKept(t *testing.T) {
	list := []int{1, 2, 3, 4}
	names := []api.Hash{name(1), name(2), name(3)}
	p := &scroll.Pen{}
	p.Put(1, list[:2]...)
	p.Names(names[:1]...)
	want := p.Text()
	if !slices.Equal(list, []int{1, 2, 3, 4}) || !slices.Equal(names, []api.Hash{name(1), name(2), name(3)}) {
		t.Errorf("%d, %x", list, names)
	}
	list[0], names[0][0] = 9, 9
	if p.Text() != want {
		t.Errorf("what is written into a list behind the call is seen: %x", p.Text())
	}
}

func TestP5_1ANilPenDoesNotPanic(t *testing.T) {
	var p *scroll.Pen
	p.Put(4, 1, 2)
	p.Count(5)
	p.Names(name(1))
	p.Raw("end")
	if p.Text() != "" {
		t.Errorf("%x", p.Text())
	}
}

func TestP5_1Raw(t *testing.T) {
	e := scroll.On("abcdef")
	sighted(t, "new", e, 6)
	for _, c := range []struct {
		n    int
		want string
		left int
	}{{0, "", 6}, {1, "a", 5}, {0, "", 5}, {3, "bcd", 2}, {2, "ef", 0}, {0, "", 0}} {
		if got := e.Raw(c.n); got != c.want {
			t.Errorf("%d: %q", c.n, got)
		}
		sighted(t, c.want, e, c.left)
	}
	for _, n := range []int{1, 2, math.MaxInt, -1, -2, math.MinInt} {
		e := scroll.On("")
		if got := e.Raw(n); got != "" {
			t.Errorf("%d of none: %q", n, got)
		}
		blinded(t, "of none", e)
	}
	for _, n := range []int{4, 5, 1 << 32, math.MaxInt, -1, -3, math.MinInt} {
		e := scroll.On("abc")
		if got := e.Raw(n); got != "" {
			t.Errorf("%d of three: %q", n, got)
		}
		blinded(t, "of three", e)
	}
}

func TestP5_1Blind(t *testing.T) {
	for _, s := range []string{"", "a", strings.Repeat("\x01", 100)} {
		e := scroll.On(s)
		e.Blind()
		blinded(t, "blinded", e)
	}
	e := scroll.On("abc")
	e.Raw(3)
	e.Blind()
	blinded(t, "blinded when all is read", e)
}

func TestP5_1ANilEye(t *testing.T) {
	var e *scroll.Eye
	blinded(t, "nil", e)
}

func TestP5_1GetByHand(t *testing.T) {
	s := "\x01\x02\x03\x04\x05\x06\x07\x08\x09"
	for _, c := range []struct{ size, want, read int }{
		{1, 0x01, 1},
		{2, 0x0201, 2},
		{3, 0x030201, 3},
		{4, 0x04030201, 4},
		{5, 0x0504030201, 5},
		{6, 0x060504030201, 6},
		{7, 0x07060504030201, 7},
		{0, 0x01, 1}, // the nearer sizes
		{-1, 0x01, 1},
		{-7, 0x01, 1},
		{math.MinInt, 0x01, 1},
		{8, 0x07060504030201, 7},
		{9, 0x07060504030201, 7},
		{math.MaxInt, 0x07060504030201, 7},
	} {
		e := scroll.On(s)
		if got := e.Get(c.size); got != c.want {
			t.Errorf("%d: %x", c.size, got)
		}
		sighted(t, "got", e, len(s)-c.read)
	}
}

func TestP5_1GetIsNeverBelow0(t *testing.T) {
	for size := 1; size <= 7; size++ {
		for _, n := range numbers() {
			e := scroll.On(lowest(n, size))
			if got := e.Get(size); got != n&(1<<(8*size)-1) || got < 0 {
				t.Errorf("%x by %d: %x", n, size, got)
			}
			sighted(t, "got", e, 0)
		}
		for short := range size {
			e := scroll.On(strings.Repeat("\xff", short))
			if got := e.Get(size); got != 0 {
				t.Errorf("%d bytes by %d: %x", short, size, got)
			}
			blinded(t, "too few", e)
		}
	}
	for _, size := range []int{0, -1, math.MinInt} {
		e := scroll.On("")
		e.Get(size)
		blinded(t, "of none", e)
	}
	for _, size := range []int{8, math.MaxInt} {
		e := scroll.On("123456")
		e.Get(size)
		blinded(t, "of six", e)
	}
}

func TestP5_1Wide(t *testing.T) {
	for _, n := range numbers() {
		e := scroll.On(lowest(n, 8) + "behind")
		if got := e.Wide(); got != max(n, 0) {
			t.Errorf("%x: %x", n, got)
		}
		if n >= 0 {
			sighted(t, "read", e, 6)
		} else {
			blinded(t, "2^63 or more", e)
		}
	}
	for short := range 8 {
		e := scroll.On(strings.Repeat("\x01", short))
		if got := e.Wide(); got != 0 {
			t.Errorf("%d bytes: %x", short, got)
		}
		blinded(t, "too few", e)
	}
}

func TestP5_1CountThatIsRead(t *testing.T) {
	for _, n := range numbers() {
		n = max(n, 0)
		for _, most := range []int{n, n + 1, 1 << 62, math.MaxInt} {
			if most < n { // it went round, or is far less
				continue
			}
			e := scroll.On(counted(n) + "behind")
			if got := e.Count(most); got != n {
				t.Errorf("%d, at most %d: %d", n, most, got)
			}
			sighted(t, "read", e, 6)
		}
	}
}

func TestP5_1CountAboveTheMost(t *testing.T) {
	for _, n := range numbers() {
		n = max(n, 0)
		for _, most := range []int{n - 1, n / 2, 0, -1, math.MinInt} {
			if most >= n {
				continue
			}
			e := scroll.On(counted(n) + "behind")
			if got := e.Count(most); got != 0 {
				t.Errorf("%d, at most %d: %d", n, most, got)
			}
			blinded(t, "above the most", e)
		}
	}
}

func TestP5_1CountThatCouldBeShorter(t *testing.T) {
	for _, n := range numbers() {
		n = max(n, 0)
		var longer []string
		if n < 0xfd {
			longer = append(longer, "\xfd"+lowest(n, 2))
		}
		if n < 1<<16 {
			longer = append(longer, "\xfe"+lowest(n, 4))
		}
		if n < 1<<32 {
			longer = append(longer, "\xff"+lowest(n, 8))
		}
		for _, s := range longer {
			e := scroll.On(s + "behind")
			if got := e.Count(math.MaxInt); got != 0 {
				t.Errorf("%x: %d", s, got)
			}
			blinded(t, "could be shorter", e)
		}
	}
}

func TestP5_1CountOfTooFewOrTooGreat(t *testing.T) {
	for _, n := range numbers() {
		s := counted(max(n, 0))
		for at := range s {
			e := scroll.On(s[:at])
			if got := e.Count(math.MaxInt); got != 0 {
				t.Errorf("%x: %d", s[:at], got)
			}
			blinded(t, "too few", e)
		}
		if n < 0 {
			e := scroll.On("\xff" + lowest(n, 8) + "behind")
			if got := e.Count(math.MaxInt); got != 0 {
				t.Errorf("%x: %d", n, got)
			}
			blinded(t, "2^63 or more", e)
		}
	}
}

func TestP5_1Name(t *testing.T) {
	h := name(3)
	e := scroll.On(string(h[:]) + strings.Repeat("\x00", 32) + "behind")
	if got := e.Name(); got != h {
		t.Errorf("%x", got)
	}
	sighted(t, "one", e, 38)
	if got := e.Name(); got != (api.Hash{}) {
		t.Errorf("noughts: %x", got)
	}
	sighted(t, "two", e, 6)
	for short := range 32 {
		e := scroll.On(string(h[:short]))
		if got := e.Name(); got != (api.Hash{}) {
			t.Errorf("%d bytes: %x", short, got)
		}
		blinded(t, "too few", e)
	}
}

func TestP5_1Names(t *testing.T) {
	list := []api.Hash{name(1), {}, name(2), name(3), name(1)}
	s := put(func(p *scroll.Pen) { p.Names(list...) })
	for n := range len(list) + 1 {
		e := scroll.On(s)
		if got := e.Names(n); !slices.Equal(got, list[:n]) {
			t.Errorf("%d: %x", n, got)
		}
		sighted(t, "names", e, 32*(len(list)-n))
		if got := e.Names(len(list) - n); !slices.Equal(got, list[n:]) {
			t.Errorf("those behind %d: %x", n, got)
		}
		sighted(t, "names", e, 0)
	}
	for _, n := range []int{0, -1, -32, math.MinInt} {
		e := scroll.On(s)
		if got := e.Names(n); len(got) != 0 {
			t.Errorf("%d: %x", n, got)
		}
		sighted(t, "none", e, len(s))
		e = scroll.On("")
		e.Names(n)
		sighted(t, "none of none", e, 0)
	}
}

func TestP5_1NamesOfTooMany(t *testing.T) {
	s := put(func(p *scroll.Pen) { p.Names(name(1), name(2), name(3)) })
	for _, n := range []int{4, 5, 1 << 31, 1 << 58, 1 << 59, 1<<59 + 1, 1 << 60, math.MaxInt} { // by 32 some of these go round
		e := scroll.On(s)
		if got := e.Names(n); len(got) != 0 {
			t.Errorf("%d: %x", n, got)
		}
		blinded(t, "too many", e)
	}
	for short := range 32 {
		e := scroll.On(s[:64+short])
		if got := e.Names(3); len(got) != 0 {
			t.Errorf("of %d bytes: %x", 64+short, got)
		}
		blinded(t, "too few", e)
	}
}

func TestP5_1AnsweredNamesAreNewMemory(t *testing.T) {
	s := put(func(p *scroll.Pen) { p.Names(name(1), name(2), name(3), name(4)) })
	e := scroll.On(s)
	first := e.Names(2)
	second := e.Names(2)
	first = append(first, name(9))
	first[0][0]++
	if !slices.Equal(second, []api.Hash{name(3), name(4)}) {
		t.Errorf("%x", second)
	}
	if got := scroll.On(s).Names(4); !slices.Equal(got, []api.Hash{name(1), name(2), name(3), name(4)}) {
		t.Errorf("%x", got)
	}
}

func TestP5_1EyesKnowNothingOfOneAnother(t *testing.T) {
	s := "abc"
	a, b := scroll.On(s), scroll.On(s)
	a.Raw(1)
	b.Blind()
	sighted(t, "the one", a, 2)
	blinded(t, "the other", b)
	if a.Raw(2) != "bc" || s != "abc" {
		t.Errorf("%q", s)
	}
}

// model is what an eye should be: the bytes that are left, and whether it is blind.
type model struct {
	rest  []byte
	blind bool
}

// cut: so many bytes; nil: they aren't there, and it is blind.
func (m *model) cut(n int) []byte {
	if m.blind || n < 0 || n > len(m.rest) {
		*m = model{blind: true}
		return nil
	}
	out := m.rest[:n:n]
	m.rest = m.rest[n:]
	return out
}

// number: one of so many bytes, 1 to 8; true: it is there, and below 2^63.
func (m *model) number(size int) (int, bool) {
	bytes := m.cut(size)
	n := binary.LittleEndian.Uint64(append(slices.Clone(bytes), make([]byte, 8)...))
	if m.blind || n > math.MaxInt {
		*m = model{blind: true}
		return 0, false
	}
	return int(n), true
}

// count: one that is at most so great.
func (m *model) count(most int) int {
	for n := 1; n < 10 && n <= len(m.rest) && !m.blind; n++ {
		var value int
		switch s := string(m.rest[:n]); n {
		case 1:
			value = int(s[0])
		case 3:
			value = int(binary.LittleEndian.Uint16([]byte(s[1:])))
		case 5:
			value = int(binary.LittleEndian.Uint32([]byte(s[1:])))
		case 9:
			value = int(binary.LittleEndian.Uint64([]byte(s[1:])))
		default:
			continue
		}
		if value >= 0 && value <= most && counted(value) == string(m.rest[:n]) {
			m.rest = m.rest[n:]
			return value
		}
	}
	*m = model{blind: true}
	return 0
}

// names: so many, one behind the other.
func (m *model) names(n int) []api.Hash {
	if n <= 0 {
		return nil
	}
	bytes := m.cut(32 * n)
	var out []api.Hash
	for part := range slices.Chunk(bytes, 32) {
		out = append(out, api.Hash(part))
	}
	return out
}

// step: one call, the same of an eye and of its model; false: they answer unlike things.
func step(r *rand.Rand, e *scroll.Eye, m *model) bool {
	n := r.Intn(12) - 2
	switch r.Intn(16) {
	case 0, 1:
		return e.Raw(n) == string(m.cut(n))
	case 2, 3:
		want, _ := m.number(min(max(n, 1), 7))
		return e.Get(n) == want
	case 4:
		want, _ := m.number(8)
		return e.Wide() == want
	case 5, 6, 7:
		most := []int{math.MaxInt, 1 << 32, 1<<16 - 1, 300, 252, n}[r.Intn(6)]
		return e.Count(most) == m.count(most)
	case 8, 9:
		got := e.Name()
		return string(got[:]) == string(append(slices.Clone(m.cut(32)), make([]byte, 32)...)[:32])
	case 10, 11:
		return slices.Equal(e.Names(n/3), m.names(n/3))
	case 12:
		if r.Intn(4) == 0 {
			e.Blind()
			*m = model{blind: true}
		}
	}
	return e.Bad() == m.blind && e.Left() == len(m.rest) && e.Done() == (!m.blind && len(m.rest) == 0)
}

func TestP5_1EveryOrder(t *testing.T) {
	r := rand.New(rand.NewSource(5))
	for round := range 20000 {
		bytes := make([]byte, r.Intn(200))
		for i := range bytes {
			bytes[i] = []byte{0, 1, 0x7f, 0x80, 0xfc, 0xfd, 0xfe, 0xff, byte(r.Intn(256))}[r.Intn(9)]
		}
		e, m := scroll.On(string(bytes)), &model{rest: slices.Clone(bytes)}
		for at := range 30 {
			if !step(r, e, m) || e.Bad() != m.blind || e.Left() != len(m.rest) {
				t.Fatalf("round %d, call %d, of %x: bad %v, left %d; not %v, %d", round, at, bytes, e.Bad(), e.Left(), m.blind, len(m.rest))
			}
		}
	}
}

// part is something that is put, and read again.
type part struct {
	write func(p *scroll.Pen)
	same  func(e *scroll.Eye) bool
	size  int
}

// parts: one of each kind, of a number and a name.
func parts(n int, h api.Hash, text string) []part {
	var out []part
	for size := 1; size <= 7; size++ {
		low := n & (1<<(8*size) - 1)
		out = append(out, part{func(p *scroll.Pen) { p.Put(size, n) }, func(e *scroll.Eye) bool { return e.Get(size) == low }, size})
	}
	count := max(n, 0)
	return append(out,
		part{func(p *scroll.Pen) { p.Put(8, count) }, func(e *scroll.Eye) bool { return e.Wide() == count }, 8},
		part{func(p *scroll.Pen) { p.Count(n) }, func(e *scroll.Eye) bool { return e.Count(count) == count }, len(counted(count))},
		part{func(p *scroll.Pen) { p.Names(h) }, func(e *scroll.Eye) bool { return e.Name() == h }, 32},
		part{func(p *scroll.Pen) { p.Names(h, api.Hash{}) }, func(e *scroll.Eye) bool { return slices.Equal(e.Names(2), []api.Hash{h, {}}) }, 64},
		part{func(p *scroll.Pen) { p.Raw(text) }, func(e *scroll.Eye) bool { return e.Raw(len(text)) == text }, len(text)},
	)
}

func TestP5_2EachPartIsReadAgain(t *testing.T) {
	for i, n := range numbers() {
		for at, c := range parts(n, name(i), lowest(n, 5)) {
			s := put(c.write)
			if len(s) != c.size {
				t.Errorf("%d, part %d: %x", n, at, s)
			}
			e := scroll.On(s + "behind")
			if !c.same(e) {
				t.Errorf("%d, part %d isn't read from %x", n, at, s)
			}
			sighted(t, "read", e, 6)
			for short := range s {
				e := scroll.On(s[:short])
				c.same(e)
				blinded(t, "a beginning", e)
			}
		}
	}
}

func TestP5_2ManyPartsAreReadAgain(t *testing.T) {
	r := rand.New(rand.NewSource(6))
	all := numbers()
	for round := range 2000 {
		var chosen []part
		p := &scroll.Pen{}
		size := 0
		for range r.Intn(20) {
			kinds := parts(all[r.Intn(len(all))], name(r.Intn(256)), strings.Repeat("t", r.Intn(50)))
			c := kinds[r.Intn(len(kinds))]
			c.write(p)
			size += c.size
			chosen = append(chosen, c)
		}
		e := scroll.On(p.Text())
		sighted(t, "all", e, size)
		for at, c := range chosen {
			if !c.same(e) {
				t.Fatalf("round %d: part %d isn't read", round, at)
			}
			size -= c.size
			sighted(t, "some", e, size)
		}
	}
}

func TestP5_2NumbersOfAListAreReadAgain(t *testing.T) {
	for size := 1; size <= 7; size++ {
		e := scroll.On(put(func(p *scroll.Pen) { p.Put(size, numbers()...) }))
		for _, n := range numbers() {
			if got := e.Get(size); got != n&(1<<(8*size)-1) {
				t.Errorf("%x by %d: %x", n, size, got)
			}
		}
		sighted(t, "all", e, 0)
	}
}

func TestP5_2WhatIsReadAsACountIsPutAgain(t *testing.T) {
	check := func(s string) {
		e := scroll.On(s)
		n := e.Count(math.MaxInt)
		if again := put(func(p *scroll.Pen) { p.Count(n) }); !e.Bad() && again+s[len(s)-e.Left():] != s {
			t.Errorf("%x: %d, put as %x", s, n, again)
		}
	}
	for n := range 1 << 16 {
		check(lowest(n, 2))
		check("\xfd" + lowest(n, 2))
		check("\xfe" + lowest(n, 4))
		check("\xfe" + lowest(n<<16, 4))
		check("\xff" + lowest(n<<24, 8))
		check("\xff" + lowest(n<<48, 8))
	}
}
