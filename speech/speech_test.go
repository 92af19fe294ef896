package speech_test

import (
	"crypto/sha256"
	"encoding/binary"
	"math"
	"math/rand"
	"reflect"
	"slices"
	"strings"
	"testing"

	"trailhead/api"
	"trailhead/envelope"
	"trailhead/speech"
)

// kinds are the words of 1 to 8, in that order; noKinds numbers that are no kind's, noWords words that are none's.
var (
	kinds   = []string{"version", "verack", "getheaders", "headers", "inv", "ping", "pong", "sendheaders"}
	noKinds = []int{0, 9, 10, 11, -1, -2, -8, 255, 256, 257, 1 << 16, 1<<32 + 1, 1<<32 + 8, math.MaxInt, math.MinInt, math.MinInt + 1}
	noWords = []string{"", "addr", "block", "getdata", "Version", "VERACK", "version ", " version", "versio", "versions", "ersion", "verac", "getheader", "header", "headersx", "in", "invs", "inv\x00", "\x00", "pin", "pings", "sendheader", "sendheaders2", "pingpong", "1", "pïng", "\xff", strings.Repeat("ping", 1000)}
)

// narrow, wide are numbers about the edges that have room in four bytes, and in seven; notNarrow, notWide such as have none.
var (
	narrow    = []int{0, 1, 2, 255, 256, 70016, 0x01020304, math.MaxInt32, math.MaxInt32 + 1, math.MaxUint32 - 1, math.MaxUint32}
	notNarrow = []int{-1, -2, -256, math.MinInt32, -1 << 32, math.MinInt, 1 << 32, 1<<32 + 1, 1 << 40, 1 << 56, math.MaxInt}
	wide      = []int{0, 1, 255, 256, math.MaxUint32, 1 << 32, 0x01020304050607, 1 << 48, 1<<55 - 1, 1 << 55, 1<<56 - 2, 1<<56 - 1}
	notWide   = []int{-1, -2, -1 << 32, -1 << 56, math.MinInt, 1 << 56, 1<<56 + 1, 1 << 57, 1 << 62, math.MaxInt}
)

// badHeaders are headers that can't be.
var badHeaders = []api.Header{
	{Version: math.MaxInt32 + 1}, {Version: math.MinInt32 - 1}, {Time: -1}, {Time: 1 << 32}, {Bits: -1}, {Bits: 1 << 32}, {Nonce: -1}, {Nonce: 1 << 32},
}

// name: a name of other bytes for each number.
func name(seed int) api.Hash {
	var out api.Hash
	for i := range out {
		out[i] = byte(seed + 7*i)
	}
	return out
}

// names: so many of them.
func names(size int) []api.Hash {
	var out []api.Hash
	for i := range size {
		out = append(out, name(i+1))
	}
	return out
}

// headers: so many that can be, and hang on nothing.
func headers(size int) []api.Header {
	edges := []api.Header{{Version: math.MinInt32}, {Version: math.MaxInt32, Time: math.MaxUint32, Bits: math.MaxUint32, Nonce: math.MaxUint32}, {}}
	var out []api.Header
	for i := range size {
		h := api.Header{Version: -i, Prev: name(i), Root: name(2 * i), Time: 1231006505 + i, Bits: 0x207fffff, Nonce: i * 1000003}
		if i%9 == 5 {
			h = edges[i/9%len(edges)]
		}
		out = append(out, h)
	}
	return out
}

// full: a message of a kind with all that there is, of which another kind has something too.
func full(kind int) api.Msg {
	return api.Msg{Kind: kind, Version: 70016, Services: 9, Height: 500, Number: 1<<56 - 7, Names: names(3), Stop: name(77), Headers: headers(2)}
}

// wantBare: a message without what its kind hasn't.
func wantBare(m api.Msg) api.Msg {
	switch m.Kind {
	case 1:
		return api.Msg{Kind: 1, Version: m.Version, Height: m.Height, Services: m.Services, Number: m.Number}
	case 3:
		return api.Msg{Kind: 3, Version: m.Version, Names: m.Names, Stop: m.Stop}
	case 4:
		return api.Msg{Kind: 4, Headers: m.Headers}
	case 5:
		return api.Msg{Kind: 5, Names: m.Names}
	case 6, 7:
		return api.Msg{Kind: m.Kind, Number: m.Number}
	}
	return api.Msg{Kind: m.Kind}
}

// goods: messages that can be: of each kind, with each of the edges, with lists of each length.
func goods() []api.Msg {
	var out []api.Msg
	for kind := 1; kind <= 8; kind++ {
		out = append(out, api.Msg{Kind: kind}, wantBare(full(kind)))
	}
	for _, n := range narrow {
		out = append(out, api.Msg{Kind: 1, Version: n}, api.Msg{Kind: 1, Height: n}, api.Msg{Kind: 3, Version: n, Names: names(1)})
	}
	for _, n := range wide {
		out = append(out, api.Msg{Kind: 1, Services: n}, api.Msg{Kind: 1, Number: n}, api.Msg{Kind: 1, Version: 1, Height: 2, Services: n, Number: 3}, api.Msg{Kind: 6, Number: n}, api.Msg{Kind: 7, Number: n})
	}
	for size := range 33 {
		out = append(out, api.Msg{Kind: 3, Version: size, Names: names(size), Stop: name(100)}, api.Msg{Kind: 5, Names: names(size)})
	}
	for size := range 65 {
		out = append(out, api.Msg{Kind: 4, Headers: headers(size)})
	}
	return append(out, api.Msg{Kind: 5, Names: make([]api.Hash, 32)}, api.Msg{Kind: 3, Names: make([]api.Hash, 32)}, api.Msg{Kind: 4, Headers: make([]api.Header, 64)})
}

// bads: messages that can't be, each by one thing.
func bads() []api.Msg {
	var out []api.Msg
	for _, kind := range noKinds {
		out = append(out, api.Msg{Kind: kind}, full(kind))
	}
	for _, n := range notNarrow {
		out = append(out, api.Msg{Kind: 1, Version: n}, api.Msg{Kind: 1, Height: n}, api.Msg{Kind: 1, Version: 1, Height: n}, api.Msg{Kind: 3, Version: n, Names: names(1)})
	}
	for _, n := range notWide {
		out = append(out, api.Msg{Kind: 1, Services: n}, api.Msg{Kind: 1, Number: n}, api.Msg{Kind: 1, Services: 1, Number: n}, api.Msg{Kind: 6, Number: n}, api.Msg{Kind: 7, Number: n})
	}
	for _, size := range []int{33, 34, 64, 100, 256, 288, 1 << 16} {
		out = append(out, api.Msg{Kind: 3, Names: names(size)}, api.Msg{Kind: 5, Names: names(size)})
	}
	for _, size := range []int{65, 66, 128, 256, 320, 1 << 13} {
		out = append(out, api.Msg{Kind: 4, Headers: headers(size)})
	}
	for i, h := range badHeaders {
		for _, size := range []int{1, 2, 64} {
			for _, at := range []int{0, size / 2, size - 1} {
				list := headers(size)
				list[at] = h
				out = append(out, api.Msg{Kind: 4, Headers: list})
			}
		}
		out = append(out, api.Msg{Kind: 4, Headers: badHeaders[:i+1]})
	}
	return out
}

// low: so many of the lowest bytes of a number, the lowest first.
func low(size, n int) string {
	return string(binary.LittleEndian.AppendUint64(nil, uint64(n))[:size])
}

// wantHeader: the bytes of a header.
func wantHeader(h api.Header) string {
	return low(4, h.Version) + string(h.Prev[:]) + string(h.Root[:]) + low(4, h.Time) + low(4, h.Bits) + low(4, h.Nonce)
}

// wantPayload: the payload of a message that can be.
func wantPayload(m api.Msg) string {
	out := ""
	switch m.Kind {
	case 1:
		out = low(4, m.Version) + low(4, m.Height) + low(7, m.Services) + low(7, m.Number)
	case 3:
		out = low(4, m.Version) + low(1, len(m.Names))
		for _, id := range m.Names {
			out += string(id[:])
		}
		out += string(m.Stop[:])
	case 4:
		out = low(1, len(m.Headers))
		for _, h := range m.Headers {
			out += wantHeader(h) + "\x00"
		}
	case 5:
		out = low(1, len(m.Names))
		for _, id := range m.Names {
			out += "\x02\x00\x00\x00" + string(id[:])
		}
	case 6, 7:
		out = low(7, m.Number)
	}
	return out
}

// wrapped: the bytes of a word and a payload on a wire.
func wrapped(word, payload string) string {
	inner := sha256.Sum256([]byte(payload))
	outer := sha256.Sum256(inner[:])
	return "TAIL" + word + strings.Repeat("\x00", 12-len(word)) + low(4, len(payload)) + string(outer[:4]) + payload
}

// copied: a message that shares nothing with another.
func copied(m api.Msg) api.Msg {
	m.Names, m.Headers = slices.Clone(m.Names), slices.Clone(m.Headers)
	return m
}

// alike: whether two messages are the same in all that there is, nil and empty lists too.
func alike(a, b api.Msg) bool {
	if !slices.Equal(a.Names, b.Names) || !slices.Equal(a.Headers, b.Headers) {
		return false
	}
	a.Names, a.Headers, b.Names, b.Headers = nil, nil, nil, nil
	return reflect.DeepEqual(a, b)
}

// isRead: that Read answers a message, with nothing else.
func isRead(t *testing.T, word, payload string, want api.Msg) {
	t.Helper()
	if m, e := speech.Read(envelope.Envelope{Word: word, Payload: payload}); e != api.OK || !alike(m, want) {
		t.Errorf("%s, %.200x: %+v, %d; not %+v", word, payload, m, e, want)
	}
}

// refused: that Read answers an error, and nothing else.
func refused(t *testing.T, word, payload string, want api.Errno) {
	t.Helper()
	if m, e := speech.Read(envelope.Envelope{Word: word, Payload: payload}); e != want || !reflect.DeepEqual(m, api.Msg{}) {
		t.Errorf("%.60q, %.200x (%d bytes): %+v, %d; not %d", word, payload, len(payload), m, e, want)
	}
}

func TestP8_1WordsAndKinds(t *testing.T) {
	for i, word := range kinds {
		if got := speech.Word(i + 1); got != word {
			t.Errorf("%d: %q", i+1, got)
		}
		if got := speech.Kind(word); got != i+1 {
			t.Errorf("%s: %d", word, got)
		}
	}
	for _, kind := range noKinds {
		if got := speech.Word(kind); got != "" {
			t.Errorf("%d: %q", kind, got)
		}
	}
	for _, word := range noWords {
		if got := speech.Kind(word); got != 0 {
			t.Errorf("%.60q: %d", word, got)
		}
	}
}

// change is one thing of a message that is made another, and the kinds that have it.
type change struct {
	what string
	make func(m *api.Msg)
	of   []int
}

// changes: of each thing that there is, of each thing of a header too.
func changes() []change {
	inHeader := func(what string, to func(h *api.Header)) change {
		return change{"a header's " + what, func(m *api.Msg) { to(&m.Headers[1]) }, []int{4}}
	}
	return []change{
		{"Version", func(m *api.Msg) { m.Version++ }, []int{1, 3}},
		{"Version, far", func(m *api.Msg) { m.Version += 1 << 32 }, []int{1, 3}},
		{"Height", func(m *api.Msg) { m.Height = -m.Height }, []int{1}},
		{"Services", func(m *api.Msg) { m.Services++ }, []int{1}},
		{"Number", func(m *api.Msg) { m.Number++ }, []int{1, 6, 7}},
		{"Number, far", func(m *api.Msg) { m.Number += 1 << 56 }, []int{1, 6, 7}},
		{"Stop", func(m *api.Msg) { m.Stop[31]++ }, []int{3}},
		{"no Stop", func(m *api.Msg) { m.Stop = api.Hash{} }, []int{3}},
		{"a name", func(m *api.Msg) { m.Names[2][0]++ }, []int{3, 5}},
		{"names' order", func(m *api.Msg) { slices.Reverse(m.Names) }, []int{3, 5}},
		{"a name more", func(m *api.Msg) { m.Names = append(m.Names, api.Hash{}) }, []int{3, 5}},
		{"a name less", func(m *api.Msg) { m.Names = m.Names[:2] }, []int{3, 5}},
		{"no names", func(m *api.Msg) { m.Names = nil }, []int{3, 5}},
		inHeader("Version", func(h *api.Header) { h.Version++ }),
		inHeader("Prev", func(h *api.Header) { h.Prev[0]++ }),
		inHeader("Root", func(h *api.Header) { h.Root[31]++ }),
		inHeader("Time", func(h *api.Header) { h.Time++ }),
		inHeader("Bits", func(h *api.Header) { h.Bits++ }),
		inHeader("Nonce", func(h *api.Header) { h.Nonce = -1 }),
		{"headers' order", func(m *api.Msg) { slices.Reverse(m.Headers) }, []int{4}},
		{"a header more", func(m *api.Msg) { m.Headers = append(m.Headers, api.Header{}) }, []int{4}},
		{"a header less", func(m *api.Msg) { m.Headers = m.Headers[:1] }, []int{4}},
		{"no headers", func(m *api.Msg) { m.Headers = nil }, []int{4}},
	}
}

func TestP8_1Same(t *testing.T) {
	for _, c := range changes() {
		for kind := -1; kind <= 10; kind++ {
			m, other := full(kind), copied(full(kind))
			if !speech.Same(m, other) || !speech.Same(m, wantBare(m)) {
				t.Errorf("kind %d isn't the same as itself", kind)
			}
			c.make(&other)
			want := !slices.Contains(c.of, kind)
			if speech.Same(m, other) != want || speech.Same(other, m) != want {
				t.Errorf("kind %d, %s: not %v", kind, c.what, want)
			}
		}
	}
}

func TestP8_1SameOfUnlikeKinds(t *testing.T) {
	for kind := -1; kind <= 10; kind++ {
		for other := -1; other <= 10; other++ {
			if speech.Same(full(kind), full(other)) != (kind == other) || speech.Same(api.Msg{Kind: kind}, api.Msg{Kind: other}) != (kind == other) {
				t.Errorf("%d and %d", kind, other)
			}
		}
	}
}

func TestP8_1SameOfEmptyLists(t *testing.T) {
	for kind := 1; kind <= 8; kind++ {
		if !speech.Same(api.Msg{Kind: kind}, api.Msg{Kind: kind, Names: []api.Hash{}, Headers: []api.Header{}}) {
			t.Errorf("kind %d", kind)
		}
	}
}

func TestP8_1SameOfMessagesThatCannotBe(t *testing.T) {
	for _, m := range bads() {
		other := copied(m)
		if !speech.Same(m, other) {
			t.Errorf("kind %d isn't the same as itself", m.Kind)
		}
	}
	if speech.Same(api.Msg{Kind: 6, Number: -1}, api.Msg{Kind: 6, Number: -2}) {
		t.Error("-1 and -2")
	}
}

func TestP8_1BytesByHand(t *testing.T) {
	a, b, c := strings.Repeat("\xaa", 32), strings.Repeat("\xbb", 32), strings.Repeat("\xcc", 32)
	var one, other, third api.Hash
	copy(one[:], a)
	copy(other[:], b)
	copy(third[:], c)
	for _, v := range []struct {
		m             api.Msg
		word, payload string
	}{
		{api.Msg{Kind: 1, Version: 70016, Height: 5, Services: 1<<56 - 2, Number: 0x07060504030201}, "version", "\x80\x11\x01\x00\x05\x00\x00\x00\xfe\xff\xff\xff\xff\xff\xff\x01\x02\x03\x04\x05\x06\x07"},
		{api.Msg{Kind: 2}, "verack", ""},
		{api.Msg{Kind: 3, Version: 1<<32 - 2, Names: []api.Hash{one, other}, Stop: third}, "getheaders", "\xfe\xff\xff\xff\x02" + a + b + c},
		{api.Msg{Kind: 3, Version: 258}, "getheaders", "\x02\x01\x00\x00\x00" + strings.Repeat("\x00", 32)},
		{api.Msg{Kind: 4, Headers: []api.Header{{Version: -2, Prev: one, Root: other, Time: 1, Bits: 2, Nonce: 3}, {}}}, "headers", "\x02\xfe\xff\xff\xff" + a + b + "\x01\x00\x00\x00\x02\x00\x00\x00\x03\x00\x00\x00\x00" + strings.Repeat("\x00", 81)},
		{api.Msg{Kind: 4}, "headers", "\x00"},
		{api.Msg{Kind: 5, Names: []api.Hash{one, other}}, "inv", "\x02\x02\x00\x00\x00" + a + "\x02\x00\x00\x00" + b},
		{api.Msg{Kind: 5}, "inv", "\x00"},
		{api.Msg{Kind: 6, Number: 6}, "ping", "\x06\x00\x00\x00\x00\x00\x00"},
		{api.Msg{Kind: 7, Number: 1<<56 - 1}, "pong", "\xff\xff\xff\xff\xff\xff\xff"},
		{api.Msg{Kind: 8}, "sendheaders", ""},
	} {
		if s, e := speech.Bytes(v.m); e != api.OK || s != wrapped(v.word, v.payload) {
			t.Errorf("%s: %x, %d", v.word, s, e)
		}
		isRead(t, v.word, v.payload, v.m)
	}
}

func TestP8_1MessagesThatCanBe(t *testing.T) {
	for _, m := range goods() {
		if !speech.Good(m) {
			t.Errorf("kind %d can't be: %.200v", m.Kind, m)
		}
		if s, e := speech.Bytes(m); e != api.OK || s != wrapped(kinds[m.Kind-1], wantPayload(m)) {
			t.Errorf("kind %d: %.200x, %d", m.Kind, s, e)
		}
	}
}

func TestP8_1MessagesThatCannotBe(t *testing.T) {
	for _, m := range bads() {
		if speech.Good(m) {
			t.Errorf("kind %d can be: %.200v", m.Kind, m)
		}
		if s, e := speech.Bytes(m); e != api.ErrArg || s != "" {
			t.Errorf("kind %d: %.200x, %d", m.Kind, s, e)
		}
	}
}

func TestP8_1WhatAKindHasNotIsNoMatter(t *testing.T) {
	for kind := 1; kind <= 8; kind++ {
		m := wantBare(full(kind))
		other := api.Msg{Kind: kind, Version: -1, Services: -1, Height: 1 << 32, Number: 1 << 56, Names: names(33), Stop: name(5), Headers: append(headers(65), badHeaders...)}
		switch kind { // what it has stays as it is
		case 1:
			other.Version, other.Height, other.Services, other.Number = m.Version, m.Height, m.Services, m.Number
		case 3:
			other.Version, other.Names, other.Stop = m.Version, m.Names, m.Stop
		case 4:
			other.Headers = m.Headers
		case 5:
			other.Names = m.Names
		case 6, 7:
			other.Number = m.Number
		}
		s, e := speech.Bytes(other)
		if !speech.Good(other) || !speech.Same(m, other) || e != api.OK || s != wrapped(kinds[kind-1], wantPayload(m)) {
			t.Errorf("kind %d: %.200x, %d", kind, s, e)
		}
	}
}

func TestP8_1ReadOfNoKind(t *testing.T) {
	for _, word := range noWords {
		for _, payload := range []string{"", "\x00", "junk", wantPayload(full(1)), wantPayload(full(4)), strings.Repeat("\xff", 1<<15)} {
			refused(t, word, payload, api.ErrNone)
		}
	}
}

func TestP8_1ReadOfEachBeginning(t *testing.T) {
	for _, m := range []api.Msg{full(1), {Kind: 3}, full(3), {Kind: 4}, full(4), {Kind: 5}, full(5), full(6), full(7)} {
		word, payload := kinds[m.Kind-1], wantPayload(m)
		for size := range len(payload) {
			refused(t, word, payload[:size], api.ErrForm)
		}
		isRead(t, word, payload, wantBare(m))
	}
}

func TestP8_1ReadOfMore(t *testing.T) {
	for _, m := range goods() {
		payload := wantPayload(m)
		for _, more := range []string{"\x00", "\x01", "\xff", "\x00\x00", payload + "\x00", strings.Repeat("\x00", 32), strings.Repeat("\x00", 36), strings.Repeat("\x00", 80), strings.Repeat("\x00", 81)} {
			refused(t, kinds[m.Kind-1], payload+more, api.ErrForm)
		}
		refused(t, kinds[m.Kind-1], strings.Repeat("\x00", 1<<14+1), api.ErrForm) // no envelope has so many either
	}
}

func TestP8_1ReadOfAnotherKindsPayload(t *testing.T) {
	for _, kind := range []int{1, 2, 3, 4, 5, 6, 7, 8} {
		for _, other := range []int{1, 2, 3, 4, 5, 6, 7, 8} {
			payload := wantPayload(full(other))
			if payload == wantPayload(full(kind)) {
				want := wantBare(full(other))
				want.Kind = kind
				isRead(t, kinds[kind-1], payload, want)
			} else {
				refused(t, kinds[kind-1], payload, api.ErrForm)
			}
		}
	}
}

func TestP8_1ReadOfTooMany(t *testing.T) {
	stop := strings.Repeat("\x55", 32)
	id := name(3)
	h := wantHeader(headers(1)[0])
	for _, size := range []int{33, 34, 64, 65, 100, 252} {
		refused(t, "getheaders", low(4, 1)+low(1, size)+strings.Repeat(string(id[:]), size)+stop, api.ErrForm)
		refused(t, "inv", low(1, size)+strings.Repeat("\x02\x00\x00\x00"+string(id[:]), size), api.ErrForm)
	}
	for _, size := range []int{65, 66, 100, 200} {
		refused(t, "headers", low(1, size)+strings.Repeat(h+"\x00", size), api.ErrForm)
	}
	for _, count := range []string{"\xfd\x00\x01", "\xfe\x00\x00\x01\x00", "\xff\x00\x00\x00\x00\x01\x00\x00\x00", "\xff\xff\xff\xff\xff\xff\xff\xff\x7f", "\xff\xff\xff\xff\xff\xff\xff\xff\xff"} {
		refused(t, "getheaders", low(4, 1)+count+strings.Repeat(string(id[:]), 256)+stop, api.ErrForm)
		refused(t, "getheaders", low(4, 1)+count+stop, api.ErrForm)
		refused(t, "headers", count+strings.Repeat(h+"\x00", 256), api.ErrForm)
		refused(t, "headers", count, api.ErrForm)
		refused(t, "inv", count+strings.Repeat("\x02\x00\x00\x00"+string(id[:]), 256), api.ErrForm)
		refused(t, "inv", count, api.ErrForm)
	}
}

func TestP8_1ReadOfCountsThatCouldBeShorter(t *testing.T) {
	for _, size := range []int{0, 1, 2, 32} {
		longer := []string{"\xfd" + low(2, size), "\xfe" + low(4, size), "\xff" + low(8, size)}
		for _, kind := range []int{3, 4, 5} {
			m := api.Msg{Kind: kind, Version: 7, Names: names(size), Stop: name(9), Headers: headers(size)}
			payload := wantPayload(m)
			at := 0
			if kind == 3 {
				at = 4
			}
			isRead(t, kinds[kind-1], payload, wantBare(m))
			for _, count := range longer {
				refused(t, kinds[kind-1], payload[:at]+count+payload[at+1:], api.ErrForm)
			}
		}
	}
}

func TestP8_1ReadOfAnotherCount(t *testing.T) {
	for _, kind := range []int{3, 4, 5} {
		m := full(kind)
		m.Headers = headers(3)
		payload := wantPayload(m)
		at := 0
		if kind == 3 {
			at = 4
		}
		for count := range 256 {
			if count != 3 {
				refused(t, kinds[kind-1], payload[:at]+low(1, count)+payload[at+1:], api.ErrForm)
			}
		}
	}
}

func TestP8_1ReadOfHeadersWithSomethingBehind(t *testing.T) {
	for _, size := range []int{1, 2, 64} {
		payload := wantPayload(api.Msg{Kind: 4, Headers: headers(size)})
		for at := 81; at < len(payload); at += 81 {
			for behind := 1; behind < 256; behind++ {
				refused(t, "headers", payload[:at]+low(1, behind)+payload[at+1:], api.ErrForm)
			}
			for _, behind := range []string{"", "\x01\x00", "\xfd\x00\x00", "\xfe\x00\x00\x00\x00", "\xff\x00\x00\x00\x00\x00\x00\x00\x00"} {
				refused(t, "headers", payload[:at]+behind+payload[at+1:], api.ErrForm)
			}
		}
	}
}

func TestP8_1ReadOfAnInvOfOthers(t *testing.T) {
	for _, size := range []int{1, 2, 32} {
		payload := wantPayload(api.Msg{Kind: 5, Names: names(size)})
		for at := 1; at < len(payload); at += 36 {
			for _, what := range []int{0, 1, 3, 4, 258, 512, 1<<16 + 2, 1 << 17, 1<<24 + 2, 1 << 25, 1<<30 + 2, 1<<32 - 1} {
				refused(t, "inv", payload[:at]+low(4, what)+payload[at+4:], api.ErrForm)
			}
		}
	}
}

func TestP8_1ReadOfAnyHeader(t *testing.T) {
	for _, b := range []string{"\x00", "\xff", "\x80", "\x7f"} {
		bytes := strings.Repeat(b, 80)
		if m, e := speech.Read(envelope.Envelope{Word: "headers", Payload: "\x01" + bytes + "\x00"}); e != api.OK || len(m.Headers) != 1 || wantHeader(m.Headers[0]) != bytes {
			t.Errorf("%x: %+v, %d", b, m, e)
		}
	}
}

// wantRead: what Read answers of a kind's payload, by how many bytes it must have.
func wantRead(kind int, s string) (api.Msg, api.Errno) {
	number := func(from, size int) int {
		out := 0
		for i := range size {
			out |= int(s[from+i]) << (8 * i)
		}
		return out
	}
	none := api.Msg{}
	m := api.Msg{Kind: kind}
	switch kind {
	case 1:
		if len(s) != 22 {
			return none, api.ErrForm
		}
		m.Version, m.Height, m.Services, m.Number = number(0, 4), number(4, 4), number(8, 7), number(15, 7)
	case 3:
		if len(s) < 5 || s[4] > 32 || len(s) != 37+32*int(s[4]) {
			return none, api.ErrForm
		}
		m.Version = number(0, 4)
		for i := range int(s[4]) {
			m.Names = append(m.Names, api.Hash([]byte(s[5+32*i:][:32])))
		}
		m.Stop = api.Hash([]byte(s[len(s)-32:]))
	case 4:
		if len(s) < 1 || s[0] > 64 || len(s) != 1+81*int(s[0]) {
			return none, api.ErrForm
		}
		for at := 1; at < len(s); at += 81 {
			if s[at+80] != 0 {
				return none, api.ErrForm
			}
			m.Headers = append(m.Headers, api.Header{Version: int(int32(number(at, 4))), Prev: api.Hash([]byte(s[at+4:][:32])), Root: api.Hash([]byte(s[at+36:][:32])), Time: number(at+68, 4), Bits: number(at+72, 4), Nonce: number(at+76, 4)})
		}
	case 5:
		if len(s) < 1 || s[0] > 32 || len(s) != 1+36*int(s[0]) {
			return none, api.ErrForm
		}
		for at := 1; at < len(s); at += 36 {
			if s[at:at+4] != "\x02\x00\x00\x00" {
				return none, api.ErrForm
			}
			m.Names = append(m.Names, api.Hash([]byte(s[at+4:][:32])))
		}
	case 6, 7:
		if len(s) != 7 {
			return none, api.ErrForm
		}
		m.Number = number(0, 7)
	default:
		if s != "" {
			return none, api.ErrForm
		}
	}
	return m, api.OK
}

// somePayload: that of a message, perhaps with a byte that is another, or one more, or one less, perhaps cut, perhaps with more behind it.
func somePayload(r *rand.Rand, m api.Msg) string {
	out := []byte(wantPayload(m))
	values := []byte{0, 1, 2, 3, 32, 33, 64, 65, 0xfd, 0xfe, 0xff, byte(r.Intn(256))}
	value := values[r.Intn(len(values))]
	at := r.Intn(len(out) + 1)
	switch r.Intn(6) {
	case 0:
		out = slices.Insert(out, at, value)
	case 1:
		out = slices.Delete(out, at, min(at+1, len(out)))
	case 2:
		if at < len(out) {
			out[at] = value
		}
	case 3:
		out = out[:at]
	case 4:
		out = append(out, value)
	}
	return string(out)
}

// someMessage: one of any kind, with any of what that has, and short lists.
func someMessage(r *rand.Rand) api.Msg {
	return wantBare(api.Msg{
		Kind: 1 + r.Intn(8), Version: int(r.Uint32()), Height: int(r.Uint32()), Services: int(r.Uint64() >> 8), Number: int(r.Uint64() >> 8),
		Names: names(r.Intn(4)), Stop: name(r.Int()), Headers: headers(r.Intn(4)),
	})
}

func TestP8_1ReadOfAnyPayload(t *testing.T) {
	r := rand.New(rand.NewSource(8))
	counts := map[api.Errno]int{}
	for range 40000 {
		m := someMessage(r)
		s := somePayload(r, m)
		want, why := wantRead(m.Kind, s)
		counts[why]++
		if got, e := speech.Read(envelope.Envelope{Word: kinds[m.Kind-1], Payload: s}); e != why || !alike(got, want) {
			t.Fatalf("%s, %x: %+v, %d; not %+v, %d", kinds[m.Kind-1], s, got, e, want, why)
		}
	}
	if counts[api.OK] < 1000 || counts[api.ErrForm] < 1000 {
		t.Errorf("but %v", counts)
	}
}

func TestP8_1WhatIsHandedInIsNotChanged(t *testing.T) {
	for kind := 1; kind <= 8; kind++ {
		m := full(kind)
		m.Names, m.Headers = names(5)[:3], headers(4)[:2]
		kept := copied(m)
		speech.Good(m)
		speech.Same(m, full(kind))
		speech.Same(full(kind), m)
		speech.Bytes(m)
		if !alike(m, kept) || !slices.Equal(m.Names[:5], names(5)) || !slices.Equal(m.Headers[:4], headers(4)) {
			t.Errorf("kind %d: %+v", kind, m)
		}
	}
}

func TestP8_1AnswersAreNewMemory(t *testing.T) {
	for _, kind := range []int{3, 4, 5} {
		m := wantBare(full(kind))
		v := envelope.Envelope{Word: kinds[kind-1], Payload: wantPayload(m)}
		first, _ := speech.Read(v)
		second, _ := speech.Read(v)
		for i := range first.Names {
			first.Names[i] = api.Hash{}
		}
		for i := range first.Headers {
			first.Headers[i] = api.Header{}
		}
		if !alike(second, m) || !alike(m, wantBare(full(kind))) {
			t.Errorf("kind %d: %+v", kind, second)
		}
		isRead(t, v.Word, v.Payload, m)
	}
}

func TestP8_2WhatHasBytesIsReadFromThem(t *testing.T) {
	r := rand.New(rand.NewSource(9))
	list := goods()
	for kind := 1; kind <= 8; kind++ {
		list = append(list, full(kind))
	}
	for range 3000 {
		list = append(list, someMessage(r))
	}
	for _, m := range list {
		s, e := speech.Bytes(m)
		if e != api.OK {
			t.Fatalf("kind %d: %d", m.Kind, e)
		}
		v, size, e := envelope.Take(s)
		if e != api.OK || size != len(s) || speech.Kind(v.Word) != m.Kind {
			t.Errorf("kind %d: %q, %d bytes, %d", m.Kind, v.Word, size, e)
		}
		if got, e := speech.Read(v); e != api.OK || !speech.Same(got, m) || !alike(got, wantBare(m)) {
			t.Errorf("kind %d: %+v, %d; not %+v", m.Kind, got, e, m)
		}
	}
}

func TestP8_2TheLongestHaveRoom(t *testing.T) {
	for _, c := range []struct {
		m    api.Msg
		size int
	}{
		{api.Msg{Kind: 3, Names: names(32)}, 4 + 1 + 32*32 + 32},
		{api.Msg{Kind: 4, Headers: headers(64)}, 1 + 64*81},
		{api.Msg{Kind: 5, Names: names(32)}, 1 + 32*36},
	} {
		s, e := speech.Bytes(c.m)
		v, _, _ := envelope.Take(s)
		if e != api.OK || len(v.Payload) != c.size || !envelope.Good(v) {
			t.Errorf("kind %d: %d bytes, %d", c.m.Kind, len(v.Payload), e)
		}
		isRead(t, v.Word, v.Payload, c.m)
	}
}

func TestP8_2UnlikeMessagesHaveUnlikeBytes(t *testing.T) {
	seen := map[string]api.Msg{}
	for _, m := range goods() {
		s, _ := speech.Bytes(m)
		if other, ok := seen[s]; ok && !speech.Same(m, other) {
			t.Errorf("%+v and %+v", m, other)
		}
		seen[s] = m
	}
}

func TestP8_2WhatIsReadHasThoseBytes(t *testing.T) {
	r := rand.New(rand.NewSource(10))
	for range 20000 {
		m := someMessage(r)
		v := envelope.Envelope{Word: kinds[m.Kind-1], Payload: somePayload(r, m)}
		got, e := speech.Read(v)
		if e != api.OK {
			continue
		}
		if s, e := speech.Bytes(got); e != api.OK || s != wrapped(v.Word, v.Payload) {
			t.Errorf("%s, %x: %x, %d", v.Word, v.Payload, s, e)
		}
	}
}
