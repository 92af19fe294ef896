package digest_test

import (
	"bytes"
	"crypto/sha256"
	"encoding/hex"
	"slices"
	"strings"
	"testing"

	"trailhead/api"
	"trailhead/digest"
)

// edges are lengths about which what is behind a text fits its last block no more, or a block is full.
var edges = []int{0, 1, 54, 55, 56, 57, 62, 63, 64, 65, 66, 118, 119, 120, 121, 127, 128, 129, 191, 192, 193, 1000}

// text: bytes of all values, among them such that are no runes.
func text(size, seed int) string {
	out := make([]byte, size)
	x := uint32(seed)*2654435761 + 1
	for i := range out {
		x = x*1664525 + 1013904223
		out[i] = byte(x >> 24)
	}
	return string(out)
}

// standard: what another one that reckons the names answers.
func standard(s string) api.Hash { return sha256.Sum256([]byte(s)) }

// inOrder: a name's bytes in their order, as digits.
func inOrder(h api.Hash) string { return hex.EncodeToString(h[:]) }

func TestP1_1OfTheStandardsExamples(t *testing.T) {
	long := "abcdefghbcdefghicdefghijdefghijkefghijklfghijklmghijklmnhijklmnoijklmnopjklmnopqklmnopqrlmnopqrsmnopqrstnopqrstu"
	for _, c := range []struct{ text, want string }{
		{"", "e3b0c44298fc1c149afbf4c8996fb92427ae41e4649b934ca495991b7852b855"},
		{"abc", "ba7816bf8f01cfea414140de5dae2223b00361a396177a9cb410ff61f20015ad"},
		{"abcdbcdecdefdefgefghfghighijhijkijkljklmklmnlmnomnopnopq", "248d6a61d20638b8e5c026930c3e6039a33ce45964ff2167f6ecedd419db06c1"},
		{long, "cf5b16a778af8380036ce59e7b0492370b249b11e8f07a51afac45037afee9d1"},
		{strings.Repeat("a", 1000000), "cdc76e5c9914fb9281a1c7e284d73e67f1809a48a497200e046d39ccc7112cd0"},
	} {
		if got := inOrder(digest.Of(c.text)); got != c.want {
			t.Errorf("of %d bytes: %s, not %s", len(c.text), got, c.want)
		}
	}
}

func TestP1_1OfEachLength(t *testing.T) {
	for size := range 400 {
		s := text(size, size)
		if got := digest.Of(s); got != standard(s) {
			t.Errorf("of %d bytes: %x", size, got)
		}
	}
	for _, size := range []int{4095, 4096, 4097, 1<<20 + 55, 1<<20 + 56} {
		s := text(size, size)
		if got := digest.Of(s); got != standard(s) {
			t.Errorf("of %d bytes: %x", size, got)
		}
	}
}

func TestP1_1OfOneByteOver(t *testing.T) {
	for _, size := range edges {
		for _, c := range []byte{0, 0x80, 0xff} {
			s := strings.Repeat(string([]byte{c}), size)
			if got := digest.Of(s); got != standard(s) {
				t.Errorf("of %d bytes %x: %x", size, c, got)
			}
		}
	}
}

func TestP1_1OfALength(t *testing.T) {
	// 2^29 bytes are 2^32 bits: the length goes beyond one word
	h, want := digest.New(), sha256.New()
	part := text(1<<20, 1)
	for range 1 << 9 {
		h.Write(part)
		want.Write([]byte(part))
	}
	h.Write("end")
	want.Write([]byte("end"))
	if got := h.Sum(); !bytes.Equal(got[:], want.Sum(nil)) {
		t.Errorf("of more than 2^32 bits: %x", got)
	}
}

func TestP1_1Double(t *testing.T) {
	if got := inOrder(digest.Double("hello")); got != "9595c9df90075148eb06860365df33584b75bff782a510c6cd4883a419833d50" {
		t.Errorf("hello: %s", got)
	}
	for _, size := range edges {
		s := text(size, 3)
		inner := standard(s)
		want := standard(string(inner[:]))
		if got := digest.Double(s); got != want {
			t.Errorf("of %d bytes: %x", size, got)
		}
		if got := digest.Double(s[:size/2], "", s[size/2:]); got != want {
			t.Errorf("of %d bytes in parts: %x", size, got)
		}
	}
}

func TestP1_1OfNothing(t *testing.T) {
	want := standard("")
	empty := digest.New()
	empty.Write()
	empty.Write("")
	empty.Write("", "", "")
	for i, got := range []api.Hash{digest.Of(), digest.Of(""), digest.Of("", ""), digest.New().Sum(), empty.Sum()} {
		if got != want {
			t.Errorf("%d: %x", i, got)
		}
	}
	if got := digest.Double(); got != standard(string(want[:])) {
		t.Errorf("double: %x", got)
	}
}

func TestP1_1OfANilHasher(t *testing.T) {
	var h *digest.Hasher
	h.Write()
	h.Write("abc", "")
	if got := h.Sum(); got != (api.Hash{}) {
		t.Errorf("%x", got)
	}
}

func TestP1_1SumBetweenWrites(t *testing.T) {
	for _, first := range edges {
		for _, second := range edges {
			s := text(first+second, first)
			h := digest.New()
			h.Write(s[:first])
			for range 2 {
				if got := h.Sum(); got != standard(s[:first]) {
					t.Errorf("of the first %d bytes: %x", first, got)
				}
			}
			h.Write(s[first:])
			if got := h.Sum(); got != standard(s) {
				t.Errorf("of %d and %d bytes: %x", first, second, got)
			}
		}
	}
}

func TestP1_1HashersKnowNothingOfOneAnother(t *testing.T) {
	a, b := digest.New(), digest.New()
	one, other := text(100, 1), text(150, 2)
	for i := range 100 {
		a.Write(one[i : i+1])
		b.Write(other[i : i+1])
	}
	b.Write(other[100:])
	digest.Of("something else")
	if a.Sum() != standard(one) || b.Sum() != standard(other) {
		t.Error("two hashers are mixed up")
	}
	if digest.New().Sum() != standard("") {
		t.Error("a new one has taken something")
	}
}

func TestP1_1PartsAreNotChangedOrKept(t *testing.T) {
	list := []string{"one", "", "two", "spare"}
	was := slices.Clone(list)
	h := digest.New()
	h.Write(list[:3]...)
	digest.Of(list[:3]...)
	digest.Double(list[:3]...)
	if !slices.Equal(list, was) {
		t.Errorf("%q", list)
	}
	list[0] = "changed"
	if h.Sum() != standard("onetwo") {
		t.Error("what is written into the list behind the call is seen")
	}
}

func TestP1_1Show(t *testing.T) {
	s := digest.Show(digest.Of("abc"))
	if s != "ad1500f261ff10b49c7a1796a36103b02322ae5dde404141eacf018fbf1678ba" {
		t.Errorf("abc: %s", s)
	}
	for at := range digest.Size {
		for value := range 256 {
			var h api.Hash
			h[at] = byte(value)
			behind := digest.Size - 1 - at
			want := strings.Repeat("00", behind) + hex.EncodeToString([]byte{byte(value)}) + strings.Repeat("00", at)
			if got := digest.Show(h); got != want {
				t.Fatalf("byte %d is %x: %s", at, value, got)
			}
			if got, e := digest.Parse(want); e != api.OK || got != h {
				t.Fatalf("%s: %x, %d", want, got, e)
			}
		}
	}
}

func TestP1_1ParseAtTheEnds(t *testing.T) {
	if got, e := digest.Parse(strings.Repeat("0", 64)); e != api.OK || got != (api.Hash{}) {
		t.Errorf("noughts: %x, %d", got, e)
	}
	all := api.Hash(bytes.Repeat([]byte{0xff}, digest.Size))
	if got, e := digest.Parse(strings.Repeat("f", 64)); e != api.OK || got != all {
		t.Errorf("ones: %x, %d", got, e)
	}
}

// refused: what is told of a text that is no digits.
func refused(t *testing.T, s string) {
	t.Helper()
	if h, e := digest.Parse(s); e != api.ErrForm || h != (api.Hash{}) {
		t.Errorf("%q: %x, %d", s, h, e)
	}
}

func TestP1_1ParseOfAWrongLength(t *testing.T) {
	for size := range 200 {
		if size != 64 {
			refused(t, strings.Repeat("0", size))
			refused(t, strings.Repeat("a", size))
		}
	}
	good := digest.Show(digest.Of("abc"))
	refused(t, good[1:])
	refused(t, good[:63])
	refused(t, good+"0")
	refused(t, good+good)
	refused(t, good+"\n")
}

func TestP1_1ParseOfOtherCharacters(t *testing.T) {
	good := digest.Show(digest.Of("abc"))
	for c := range 256 {
		digit := c >= '0' && c <= '9' || c >= 'a' && c <= 'f'
		for at := range good {
			s := good[:at] + string([]byte{byte(c)}) + good[at+1:]
			if !digit {
				refused(t, s)
			} else if _, e := digest.Parse(s); e != api.OK {
				t.Errorf("%q: %d", s, e)
			}
		}
	}
	refused(t, strings.ToUpper(good))
	refused(t, "0x"+good[2:])
	refused(t, " "+good[1:])
}

func TestP1_1ParseOfWideRunes(t *testing.T) {
	// runes whose low bits are a digit's, wide digits, what stands for no rune: by 64 bytes, and by 64 runes
	for _, r := range []rune{0x130, 0x161, 0x666, 0xff10, 0xff41, 0x10030, 0x10ff61, 0xfffd, 0xe9} {
		s := string(r)
		refused(t, s+strings.Repeat("0", 64-len(s)))
		refused(t, strings.Repeat("0", 64-len(s))+s)
		refused(t, s+strings.Repeat("0", 63))
		refused(t, strings.Repeat("0", 63)+s)
		refused(t, strings.Repeat(s, 64))
		refused(t, strings.Repeat(s, 64/len(s)))
	}
}

func TestP1_2CutInTwo(t *testing.T) {
	for _, size := range edges {
		s := text(size, 5)
		want := standard(s)
		for at := range size + 1 {
			if got := digest.Of(s[:at], s[at:]); got != want {
				t.Fatalf("of %d bytes, cut at %d: %x", size, at, got)
			}
			h := digest.New()
			h.Write(s[:at])
			h.Write(s[at:])
			if got := h.Sum(); got != want {
				t.Fatalf("of %d bytes, written in two, cut at %d: %x", size, at, got)
			}
		}
	}
}

func TestP1_2CutInEqualParts(t *testing.T) {
	s := text(500, 6)
	want, twice := standard(s), digest.Double(s)
	for _, each := range []int{1, 2, 3, 7, 31, 55, 56, 63, 64, 65, 100, 127, 128, 129, 499, 500} {
		var parts []string
		for c := range slices.Chunk([]byte(s), each) {
			parts = append(parts, string(c), "")
		}
		if got := digest.Of(parts...); got != want {
			t.Errorf("parts of %d bytes: %x", each, got)
		}
		if got := digest.Double(parts...); got != twice {
			t.Errorf("parts of %d bytes, double: %x", each, got)
		}
		h := digest.New()
		for _, part := range parts {
			h.Write(part)
		}
		if got := h.Sum(); got != want {
			t.Errorf("parts of %d bytes, one by one: %x", each, got)
		}
	}
}

func TestP1_2EmptyParts(t *testing.T) {
	for _, parts := range [][]string{{"abc"}, {"", "abc"}, {"abc", ""}, {"a", "", "bc"}, {"", "", "a", "", "b", "c", ""}} {
		if got := digest.Of(parts...); got != standard("abc") {
			t.Errorf("%q: %x", parts, got)
		}
	}
}

func TestP1_2DigitsAreReadAgain(t *testing.T) {
	h := digest.Of("first")
	for range 1000 {
		s := digest.Show(h)
		got, e := digest.Parse(s)
		if e != api.OK || got != h {
			t.Fatalf("%s: %x, %d", s, got, e)
		}
		if again := digest.Show(got); again != s {
			t.Fatalf("%s: %s", s, again)
		}
		h = digest.Of(s)
	}
}
