package envelope_test

import (
	"bytes"
	"crypto/sha256"
	"encoding/binary"
	"math"
	"math/rand"
	"slices"
	"strings"
	"testing"

	"trailhead/api"
	"trailhead/envelope"
)

// letters are those that a word may have.
const letters = "abcdefghijklmnopqrstuvwxyz0123456789"

// goodWords, badWords are words about the edges; those of badWords that fit into twelve bytes are none on a wire either.
var (
	goodWords = []string{"a", "z", "0", "9", "az", "09", "verack", "ping", "getheaders", "sendheaders", "abcdefghijkl", "000000000000", "zzzzzzzzzzz9", "0a1b2c3d4e5f"}
	badWords  = []string{"", "abcdefghijklm", "getheaders123", strings.Repeat("a", 24), strings.Repeat("z", 1<<16), "Ping", "pinG", "VERACK", "ping ", " ping", "pi ng", "ping\n", "pi-ng", "ping.", "`", "{", "/", ":", "@", "[", "a`", "a{", "0/", "0:", "\x00ping", "pi\x00ng", "\x01", "ping\xff", "\x80", "\xe1", "pïng", "ß", "٣", "ｐｉｎｇ"}
)

// payloadSizes are sizes about the edges: of blocks of 64 bytes, of one and two bytes, and the greatest.
var payloadSizes = []int{0, 1, 2, 54, 55, 56, 63, 64, 65, 119, 120, 255, 256, 257, 1000, 1<<14 - 257, 1<<14 - 256, 1<<14 - 1, 1 << 14}

// text: so many bytes, of all values.
func text(size int) string {
	out := make([]byte, size)
	for i := range out {
		out[i] = byte(i*7 + i/256 + size)
	}
	return string(out)
}

// number: the four lowest bytes of a number, the lowest first.
func number(n int) string {
	return string(binary.LittleEndian.AppendUint32(nil, uint32(n)))
}

// filled: a word of at most twelve bytes with noughts behind it.
func filled(word string) string {
	return word + strings.Repeat("\x00", 12-len(word))
}

// wantSum: a payload's sum, by another's SHA-256.
func wantSum(payload string) string {
	inner := sha256.Sum256([]byte(payload))
	outer := sha256.Sum256(inner[:])
	return string(outer[:4])
}

// wantBytes: the bytes of an envelope, of one that can't be too, as long as the word has room.
func wantBytes(v envelope.Envelope) string {
	return "TAIL" + filled(v.Word) + number(len(v.Payload)) + wantSum(v.Payload) + v.Payload
}

// goods: envelopes that can be.
func goods() []envelope.Envelope {
	var out []envelope.Envelope
	for i, word := range goodWords {
		out = append(out, envelope.Envelope{Word: word}, envelope.Envelope{Word: word, Payload: text(i * 13)})
	}
	for _, size := range payloadSizes {
		out = append(out, envelope.Envelope{Word: "headers", Payload: text(size)}, envelope.Envelope{Word: "x", Payload: strings.Repeat("\x00", size)})
	}
	return append(out, envelope.Envelope{Word: "nested", Payload: wantBytes(envelope.Envelope{Word: "inner", Payload: "TAIL"})})
}

// bytesOf: the bytes of an envelope that can be.
func bytesOf(t *testing.T, v envelope.Envelope) string {
	t.Helper()
	s, e := envelope.Bytes(v)
	if e != api.OK {
		t.Fatalf("%q, %d bytes: %d", v.Word, len(v.Payload), e)
	}
	return s
}

// taken: that Take answers an envelope, and as many bytes as it has.
func taken(t *testing.T, s string, v envelope.Envelope) {
	t.Helper()
	if got, n, e := envelope.Take(s); e != api.OK || got != v || n != 24+len(v.Payload) {
		t.Errorf("of %.60q: %.60q, %d, %d; not %.60q", s, got, n, e, v)
	}
}

// refused: that Take answers an error, and nothing else.
func refused(t *testing.T, s string, want api.Errno) {
	t.Helper()
	if got, n, e := envelope.Take(s); e != want || got != (envelope.Envelope{}) || n != 0 {
		t.Errorf("of %.60q (%d bytes): %.60q, %d, %d; not %d", s, len(s), got, n, e, want)
	}
}

// refusedFrom: that from so many bytes on those that there are can't be, and with fewer of them there are too few.
func refusedFrom(t *testing.T, s string, from int) {
	t.Helper()
	for size := range len(s) + 1 {
		if size < from {
			refused(t, s[:size], api.ErrMore)
		} else {
			refused(t, s[:size], api.ErrForm)
		}
	}
}

func TestP7_1Constants(t *testing.T) {
	if envelope.Magic != 0x4c494154 || envelope.Head != 24 {
		t.Errorf("%x, %d", envelope.Magic, envelope.Head)
	}
}

func TestP7_1BytesByHand(t *testing.T) {
	for _, c := range []struct {
		v    envelope.Envelope
		want string
	}{
		{envelope.Envelope{Word: "verack"}, "TAILverack\x00\x00\x00\x00\x00\x00\x00\x00\x00\x00\x5d\xf6\xe0\xe2"},
		{envelope.Envelope{Word: "0"}, "TAIL0\x00\x00\x00\x00\x00\x00\x00\x00\x00\x00\x00\x00\x00\x00\x00\x5d\xf6\xe0\xe2"},
		{envelope.Envelope{Word: "getheaders12"}, "TAILgetheaders12\x00\x00\x00\x00\x5d\xf6\xe0\xe2"},
		{envelope.Envelope{Word: "ping", Payload: "hello"}, "TAILping\x00\x00\x00\x00\x00\x00\x00\x00\x05\x00\x00\x00\x95\x95\xc9\xdfhello"},
	} {
		if s := bytesOf(t, c.v); s != c.want {
			t.Errorf("%q: %q", c.v, s)
		}
		taken(t, c.want, c.v)
	}
}

func TestP7_1EnvelopesThatCanBe(t *testing.T) {
	for _, v := range goods() {
		if !envelope.Good(v) {
			t.Errorf("%q, %d bytes: can't be", v.Word, len(v.Payload))
		}
		if s := bytesOf(t, v); s != wantBytes(v) {
			t.Errorf("%q, %d bytes: %.60q", v.Word, len(v.Payload), s)
		}
	}
}

// cannotBe: that an envelope can't.
func cannotBe(t *testing.T, v envelope.Envelope) {
	t.Helper()
	if envelope.Good(v) {
		t.Errorf("%.60q, %d bytes: can be", v.Word, len(v.Payload))
	}
	if s, e := envelope.Bytes(v); e != api.ErrArg || s != "" {
		t.Errorf("%.60q, %d bytes: %.60q, %d", v.Word, len(v.Payload), s, e)
	}
}

func TestP7_1EnvelopesThatCannotBe(t *testing.T) {
	for _, word := range append(badWords, "ping\x00", "\x00", "abcdefghijkl\x00", strings.Repeat("\x00", 12)) {
		cannotBe(t, envelope.Envelope{Word: word})
		cannotBe(t, envelope.Envelope{Word: word, Payload: "payload"})
	}
	for _, size := range []int{1<<14 + 1, 1<<14 + 2, 1 << 15, 1 << 16, 1<<16 + 5, 1 << 24} {
		cannotBe(t, envelope.Envelope{Word: "ping", Payload: strings.Repeat("x", size)})
		cannotBe(t, envelope.Envelope{Payload: strings.Repeat("x", size)})
	}
}

func TestP7_1WordsOfEachLength(t *testing.T) {
	for size := range 40 {
		v := envelope.Envelope{Word: strings.Repeat("w", size), Payload: "p"}
		if size < 1 || size > 12 {
			cannotBe(t, v)
		} else if !envelope.Good(v) || bytesOf(t, v) != wantBytes(v) {
			t.Errorf("%q can be", v.Word)
		}
	}
}

func TestP7_1WordsOfEachByte(t *testing.T) {
	for b := range 256 {
		for _, size := range []int{1, 2, 7, 12} {
			for at := range size {
				word := []byte("abcdefghijkl")[:size]
				word[at] = byte(b)
				v := envelope.Envelope{Word: string(word)}
				switch {
				case strings.IndexByte(letters, byte(b)) >= 0:
					if !envelope.Good(v) {
						t.Errorf("%q can't be", v.Word)
					}
					taken(t, wantBytes(v), v)
				case b == 0 && at == size-1 && size > 1: // on a wire it is the word without it
					cannotBe(t, v)
					taken(t, wantBytes(v), envelope.Envelope{Word: v.Word[:at]})
				default:
					cannotBe(t, v)
					refused(t, wantBytes(v), api.ErrForm)
				}
			}
		}
	}
}

func TestP7_1TakeOfNone(t *testing.T) {
	refused(t, "", api.ErrMore)
}

func TestP7_1TakeOfAnotherMagic(t *testing.T) {
	s := wantBytes(envelope.Envelope{Word: "ping", Payload: "hello"})
	for bit := range 32 {
		other := []byte(s)
		other[bit/8] ^= 1 << (bit % 8)
		refusedFrom(t, string(other), 4)
	}
	for _, other := range []string{"LIAT", "tail", "\x00\x00\x00\x00", "\xff\xff\xff\xff", "junk", "\xf9\xbe\xb4\xd9", "\x00TAI"} {
		refusedFrom(t, other+s[4:], 4)
	}
	refusedFrom(t, s[1:], 4)
	refusedFrom(t, strings.Repeat("\x00", 100), 4)
}

func TestP7_1TakeOfABadWord(t *testing.T) {
	for _, word := range badWords {
		if len(word) > 12 {
			continue
		}
		refusedFrom(t, "TAIL"+filled(word)+number(0)+wantSum(""), 24)
		refusedFrom(t, wantBytes(envelope.Envelope{Word: word, Payload: "hello"}), 24)
	}
}

func TestP7_1TakeOfWordsWithNoughtsBetween(t *testing.T) {
	for at := range 12 {
		for behind := at + 1; behind < 12; behind++ {
			word := []byte(strings.Repeat("a", 12))
			for i := at; i < behind; i++ {
				word[i] = 0
			}
			refusedFrom(t, "TAIL"+string(word)+number(0)+wantSum(""), 24)
		}
	}
}

func TestP7_1TakeOfTooLong(t *testing.T) {
	for _, size := range []int{1<<14 + 1, 1<<14 + 2, 1 << 15, 1<<16 - 1, 1 << 16, 1<<16 + 5, 1 << 24, math.MaxInt32, math.MaxInt32 + 1, math.MaxUint32 - 23, math.MaxUint32} {
		refusedFrom(t, "TAILping"+strings.Repeat("\x00", 8)+number(size)+wantSum("")+"hello", 24)
	}
	long := envelope.Envelope{Word: "ping", Payload: text(1<<14 + 1)} // all of it is there, and the sum is right
	refused(t, wantBytes(long), api.ErrForm)
}

func TestP7_1TakeOfTheLongest(t *testing.T) {
	v := envelope.Envelope{Word: "ping", Payload: text(1 << 14)}
	s := wantBytes(v)
	for _, size := range []int{23, 24, 25, 1000, 1 << 14, 1<<14 + 22, 1<<14 + 23} {
		refused(t, s[:size], api.ErrMore)
	}
	taken(t, s, v)
	taken(t, s+"x", v)
}

func TestP7_1TakeOfAnotherSum(t *testing.T) {
	for _, payload := range []string{"", "h", "hello", text(64), text(300)} {
		s := wantBytes(envelope.Envelope{Word: "ping", Payload: payload})
		for bit := range 32 {
			other := []byte(s)
			other[20+bit/8] ^= 1 << (bit % 8)
			refusedFrom(t, string(other), len(s))
			refused(t, string(other)+s, api.ErrForm)
		}
	}
}

func TestP7_1TakeOfAnotherPayload(t *testing.T) {
	for _, size := range []int{1, 2, 5, 64, 300} {
		s := wantBytes(envelope.Envelope{Word: "ping", Payload: text(size)})
		for at := 24; at < len(s); at++ {
			other := []byte(s)
			other[at] ^= byte(1 << (at % 8))
			refusedFrom(t, string(other), len(s))
		}
		shorter := s[:16] + number(size-1) + s[20:]
		refusedFrom(t, shorter, len(s)-1)
		longer := s[:16] + number(size+1) + s[20:] + "\x00"
		refusedFrom(t, longer, len(s)+1)
	}
}

func TestP7_1TakeOfTheSumOfOneSha(t *testing.T) {
	inner := sha256.Sum256([]byte("hello"))
	refused(t, "TAIL"+filled("ping")+number(5)+string(inner[:4])+"hello", api.ErrForm)
	outer := sha256.Sum256(inner[:])
	refused(t, "TAIL"+filled("ping")+number(5)+string(outer[28:])+"hello", api.ErrForm)
	taken(t, "TAIL"+filled("ping")+number(5)+string(outer[:4])+"hello", envelope.Envelope{Word: "ping", Payload: "hello"})
}

// wantTake: what Take answers, as the chapter's sentences follow one another.
func wantTake(s string) (envelope.Envelope, int, api.Errno) {
	if len(s) >= 4 && !strings.HasPrefix(s, "TAIL") {
		return envelope.Envelope{}, 0, api.ErrForm
	}
	if len(s) < 24 {
		return envelope.Envelope{}, 0, api.ErrMore
	}
	word := s[4:16]
	for len(word) > 0 && word[len(word)-1] == 0 {
		word = word[:len(word)-1]
	}
	size := int(binary.LittleEndian.Uint32([]byte(s[16:20])))
	if word == "" || strings.Trim(word, letters) != "" || size > 1<<14 {
		return envelope.Envelope{}, 0, api.ErrForm
	}
	if len(s) < 24+size {
		return envelope.Envelope{}, 0, api.ErrMore
	}
	payload := s[24 : 24+size]
	if s[20:24] != wantSum(payload) {
		return envelope.Envelope{}, 0, api.ErrForm
	}
	return envelope.Envelope{Word: word, Payload: payload}, 24 + size, api.OK
}

// wantAll: what All answers, by wantTake.
func wantAll(s string) ([]envelope.Envelope, string, api.Errno) {
	var out []envelope.Envelope
	for len(s) > 0 {
		v, n, e := wantTake(s)
		if e != api.OK {
			return out, s, e
		}
		out = append(out, v)
		s = s[n:]
	}
	return out, "", api.OK
}

// allIs: that All answers such.
func allIs(t *testing.T, s string, want []envelope.Envelope, left string, why api.Errno) {
	t.Helper()
	if got, rest, e := envelope.All(s); !slices.Equal(got, want) || rest != left || e != why {
		t.Errorf("of %.60q: %d of them, %.60q, %d; not %d, %.60q, %d", s, len(got), rest, e, len(want), left, why)
	}
}

func TestP7_1AnyBytes(t *testing.T) {
	r := rand.New(rand.NewSource(7))
	kinds := map[api.Errno]int{}
	for range 30000 {
		s := someBytes(r)
		want, n, why := wantTake(s)
		kinds[why]++
		if got, m, e := envelope.Take(s); got != want || m != n || e != why {
			t.Fatalf("of %q: %q, %d, %d; not %q, %d, %d", s, got, m, e, want, n, why)
		}
		list, rest, why := wantAll(s)
		allIs(t, s, list, rest, why)
	}
	for _, e := range []api.Errno{api.OK, api.ErrMore, api.ErrForm} {
		if kinds[e] < 1000 {
			t.Errorf("but %d of %d", kinds[e], e)
		}
	}
}

// someBytes: up to three envelopes, perhaps with a byte that is another, or one more, or one less, perhaps cut, perhaps nothing of the kind.
func someBytes(r *rand.Rand) string {
	var out []byte
	for range r.Intn(4) {
		v := envelope.Envelope{Word: goodWords[r.Intn(len(goodWords))], Payload: text(r.Intn(60))}
		out = append(out, wantBytes(v)...)
	}
	values := []byte{0, 1, 'a', 'z', '0', '9', 'T', 0x40, 0x80, 0xff, byte(r.Intn(256))}
	value := values[r.Intn(len(values))]
	at := r.Intn(len(out) + 1)
	switch r.Intn(6) {
	case 0:
		out = slices.Insert(out, at, value)
	case 1:
		out = slices.Delete(out, at, min(at+1, len(out)))
	case 2:
		if at < len(out) {
			out[at] = value
		}
	case 3:
		out = out[:at]
	case 4:
		out = append(out, bytes.Repeat([]byte{value}, r.Intn(40))...)
	}
	return string(out)
}

func TestP7_1AllOfNone(t *testing.T) {
	allIs(t, "", nil, "", api.OK)
}

func TestP7_1All(t *testing.T) {
	list := goods()
	var s strings.Builder
	for _, v := range list {
		s.WriteString(wantBytes(v))
	}
	allIs(t, s.String(), list, "", api.OK)
	one := wantBytes(list[0])
	for size := 1; size < len(one); size++ {
		allIs(t, s.String()+one[:size], list, one[:size], api.ErrMore)
	}
	for _, junk := range []string{"junk", "\x00\x00\x00\x00", "TAIK", "TAI\x00", "TAILPING" + strings.Repeat("\x00", 16)} {
		allIs(t, s.String()+junk, list, junk, api.ErrForm)
		allIs(t, s.String()+junk+one, list, junk+one, api.ErrForm) // what stands behind isn't looked for
		allIs(t, junk+s.String(), nil, junk+s.String(), api.ErrForm)
	}
	for _, few := range []string{"j", "jun", "TAI", "TAIL\x00", "TAIL?????????????"} {
		allIs(t, s.String()+few, list, few, api.ErrMore)
		allIs(t, few, nil, few, api.ErrMore)
	}
}

func TestP7_1AllStopsAtTheFirstThatCannotBe(t *testing.T) {
	var list []envelope.Envelope
	all := ""
	for i := range 6 {
		v := envelope.Envelope{Word: "ping", Payload: text(i)}
		list = append(list, v)
		all += wantBytes(v)
	}
	at := 0
	for i, v := range list {
		for _, place := range []int{0, 3, 4, 15, 17, 20, 23} {
			other := []byte(all)
			other[at+place] ^= 0x80
			allIs(t, string(other), list[:i], string(other)[at:], api.ErrForm)
		}
		at += 24 + len(v.Payload)
	}
}

func TestP7_1AllOfMany(t *testing.T) {
	one := envelope.Envelope{Word: "pong", Payload: "1234567"}
	list := slices.Repeat([]envelope.Envelope{one}, 20000)
	allIs(t, strings.Repeat(wantBytes(one), len(list))+"TAIL", list, "TAIL", api.ErrMore)
}

func TestP7_1AnswersAreNewMemory(t *testing.T) {
	a, b := envelope.Envelope{Word: "a"}, envelope.Envelope{Word: "b", Payload: "b"}
	s := wantBytes(a) + wantBytes(b)
	first, _, _ := envelope.All(s)
	second, _, _ := envelope.All(s)
	first[0], first[1] = envelope.Envelope{}, a
	_ = append(first[:1], a)
	if !slices.Equal(second, []envelope.Envelope{a, b}) {
		t.Errorf("%q", second)
	}
	allIs(t, s, []envelope.Envelope{a, b}, "", api.OK)
}

func TestP7_2WhatHasBytesIsTakenFromThem(t *testing.T) {
	for _, v := range goods() {
		s := bytesOf(t, v)
		if len(s) != 24+len(v.Payload) {
			t.Errorf("%q, %d bytes: %d bytes", v.Word, len(v.Payload), len(s))
		}
		for _, behind := range []string{"", "\x00", "x", "TAIL", "junk", s, "TAILping", strings.Repeat("\xff", 100), text(1000)} {
			taken(t, s+behind, v)
		}
	}
}

func TestP7_2EachBeginningIsTooFew(t *testing.T) {
	for _, v := range goods() {
		s := bytesOf(t, v)
		step := max(1, len(s)/2000) // of the longest not all
		for size := 0; size < len(s); size += step {
			refused(t, s[:size], api.ErrMore)
		}
		refused(t, s[:len(s)-1], api.ErrMore)
	}
}

func TestP7_2UnlikeEnvelopesHaveUnlikeBytes(t *testing.T) {
	seen := map[string]envelope.Envelope{}
	for _, v := range goods() {
		s := bytesOf(t, v)
		if other, ok := seen[s]; ok && other != v {
			t.Errorf("%.60q and %.60q", v, other)
		}
		seen[s] = v
	}
}

func TestP7_2WhatIsTakenHasThoseBytes(t *testing.T) {
	r := rand.New(rand.NewSource(8))
	for range 20000 {
		s := someBytes(r)
		v, n, e := envelope.Take(s)
		if e == api.OK && bytesOf(t, v) != s[:n] {
			t.Errorf("%q is taken from %q", v, s)
		}
	}
}

// inPieces: what comes of bytes that are told piece by piece: each with what was left of those ahead.
func inPieces(s string, ends ...int) ([]envelope.Envelope, string, api.Errno) {
	var out []envelope.Envelope
	rest, why := "", api.OK
	from := 0
	for _, end := range append(ends, len(s)) {
		var some []envelope.Envelope
		some, rest, why = envelope.All(rest + s[from:end])
		out = append(out, some...)
		from = end
	}
	return out, rest, why
}

// sameInPieces: that the same comes of pieces as of all at once.
func sameInPieces(t *testing.T, s string, ends ...int) {
	t.Helper()
	want, left, why := envelope.All(s)
	if got, rest, e := inPieces(s, ends...); !slices.Equal(got, want) || rest != left || e != why {
		t.Fatalf("of %q, cut at %d: %d of them, %q, %d; not %d, %q, %d", s, ends, len(got), rest, e, len(want), left, why)
	}
}

func TestP7_2HoweverBytesAreCut(t *testing.T) {
	good := wantBytes(envelope.Envelope{Word: "verack"}) + wantBytes(envelope.Envelope{Word: "ping", Payload: "1234567"}) + wantBytes(envelope.Envelope{Word: "abcdefghijkl", Payload: text(30)})
	for _, s := range []string{good, good + "TAIL", good + "TAILping", good + "junk" + good, good[:50] + good, "\x00" + good} {
		for one := range len(s) + 1 {
			for other := one; other <= len(s); other++ {
				sameInPieces(t, s, one, other)
			}
		}
	}
}

func TestP7_2ByteByByte(t *testing.T) {
	list := goods()
	for _, v := range list {
		s := wantBytes(v)
		if len(s) > 2000 {
			continue
		}
		s = s + wantBytes(list[3]) + s[:len(s)-1]
		ends := make([]int, len(s))
		for i := range ends {
			ends[i] = i
		}
		sameInPieces(t, s, ends...)
		if got, rest, e := inPieces(s, ends...); !slices.Equal(got, []envelope.Envelope{v, list[3]}) || rest != wantBytes(v)[:len(rest)] || e != api.ErrMore {
			t.Errorf("%d of them, %q, %d", len(got), rest, e)
		}
	}
}

func TestP7_2AnyBytesCutAnywhere(t *testing.T) {
	r := rand.New(rand.NewSource(9))
	for range 20000 {
		s := someBytes(r)
		ends := make([]int, r.Intn(6))
		for i := range ends {
			ends[i] = r.Intn(len(s) + 1)
		}
		slices.Sort(ends)
		sameInPieces(t, s, ends...)
	}
}
