package lzw

import (
	"bytes"
	"fmt"
	"math"
	"slices"
	"strings"
	"testing"

	"mezzotint/api"
)

var kinds = []bool{false, true}

// call is Decode, or DecodeOld.
func call(b []byte, n int, old bool) ([]byte, api.Errno) {
	if old {
		return DecodeOld(b, n)
	}
	return Decode(b, n)
}

// turn is a text with its characters in reverse order.
func turn(s string) string {
	b := []byte(s)
	slices.Reverse(b)
	return string(b)
}

// eights is the bits of every byte as texts of 0 and 1: in the order of the
// usual kind, and of the old one.
var eights = func() (texts [2][256]string) {
	for c := range 256 {
		text := fmt.Sprintf("%08b", c)
		texts[0][c], texts[1][c] = text, turn(text)
	}
	return texts
}()

// textOf is the bits of bytes as a text of 0 and 1, in the order of a kind.
func textOf(b []byte, old bool) string {
	var s strings.Builder
	for _, c := range b {
		if old {
			s.WriteString(eights[1][c])
		} else {
			s.WriteString(eights[0][c])
		}
	}
	return s.String()
}

// bytesOf is the bytes that have the bits of a text; the last one is filled up.
func bytesOf(text string, old bool) []byte {
	var b []byte
	text += strings.Repeat("0", (8-len(text)%8)%8)
	for ; text != ""; text = text[8:] {
		b = append(b, byte(numberOf(text[:8], old)))
	}
	return b
}

// numberOf is a group of bits taken as a number.
func numberOf(group string, old bool) int {
	v := 0
	for i := range len(group) {
		if old {
			v |= int(group[i]-'0') << i
		} else {
			v = 2*v + int(group[i]-'0')
		}
	}
	return v
}

// groupOf is a number as a group of so many bits.
func groupOf(v, wide int, old bool) string {
	group := make([]byte, wide)
	for i := range group {
		group[i] = byte('0' + v>>(wide-1-i)&1)
	}
	if old {
		slices.Reverse(group)
	}
	return string(group)
}

// model is the table by the chapter's words: of each code its whole string.
// What a code below 256 stands for is there from the start; Clear and End have
// no string.
type model struct {
	old      bool
	table    [][]byte
	previous []byte
}

func newModel(old bool) *model {
	m := &model{old: old}
	m.clear()
	return m
}

func (m *model) clear() { m.table, m.previous = initial[:258:258], nil }

// initial is the table at first.
var initial = func() (table [258][]byte) {
	for c := range 256 {
		table[c] = []byte{byte(c)}
	}
	return table
}()

// width is that of the next code, by the numbers at which it changes.
func (m *model) width() int {
	k := len(m.table)
	if m.old {
		k--
	}
	switch {
	case k <= 510:
		return 9
	case k <= 1022:
		return 10
	case k <= 2046:
		return 11
	}
	return 12
}

// take is what a code other than End produces; false if it is invalid.
func (m *model) take(code int) ([]byte, bool) {
	if code == 256 {
		m.clear()
		return nil, true
	}
	var made []byte
	switch {
	case m.previous == nil && code > 255:
		return nil, false
	case code < len(m.table):
		made = m.table[code]
	case code == len(m.table) && len(m.table) < 4096:
		made = append(slices.Clone(m.previous), m.previous[0])
	default:
		return nil, false
	}
	if m.previous != nil && len(m.table) < 4096 {
		m.table = append(m.table, append(slices.Clone(m.previous), made[0]))
	}
	m.previous = made
	return made, true
}

// decoded is what Decode, or DecodeOld, must answer, by the chapter's words.
func decoded(b []byte, n int, old bool) ([]byte, api.Errno) {
	if n < 0 {
		return nil, api.ErrArg
	}
	text := textOf(b, old)
	m := newModel(old)
	var plain []byte
	for len(plain) < n {
		wide := m.width()
		if len(text) < wide {
			return nil, api.ErrCut
		}
		code := numberOf(text[:wide], old)
		text = text[wide:]
		if code == 257 {
			return nil, api.ErrCut
		}
		made, ok := m.take(code)
		if !ok {
			return nil, api.ErrCode
		}
		plain = append(plain, made...)
		if len(plain) > n {
			return nil, api.ErrLong
		}
	}
	return plain, api.OK
}

// packed is codes as bytes, each code as wide as it must be there, and what
// they produce. The widths behind an invalid code don't count any more.
func packed(codes []int, old bool) (b, plain []byte) {
	var text strings.Builder
	m := newModel(old)
	for _, code := range codes {
		text.WriteString(groupOf(code, m.width(), old))
		if code == 257 {
			continue
		}
		made, _ := m.take(code)
		plain = append(plain, made...)
	}
	return bytesOf(text.String(), old), plain
}

// counted is the codes that fill the table up to so many codes, and none of
// them a code that was added: after the first one, each adds one.
func counted(codes int) []int {
	var list []int
	for i := range codes - 257 {
		list = append(list, i*i%251)
	}
	return list
}

// mixed is n bytes that follow no simple pattern, the same for the same seed.
func mixed(n int, seed uint32, letters int) []byte {
	data := make([]byte, n)
	for i := range data {
		seed = seed*1664525 + 1013904223
		data[i] = byte(int(seed>>24) * letters >> 8)
	}
	return data
}

// pairless is n bytes, up to 32768, of which no two neighbours come again: each
// of them needs a code of its own.
func pairless(n int) []byte {
	data := make([]byte, n)
	for i := 1; i < n; i++ {
		data[i] = data[i-1] + byte((i-1)/256*2+1)
	}
	return data
}

// mixedCodes is so many codes that are valid, of all kinds: bytes, strings that
// came, the next one, and (every so many) Clears.
func mixedCodes(n int, seed uint32, clears int) []int {
	var codes []int
	size, previous := 258, false
	for range n {
		seed = seed*1664525 + 1013904223
		pick := int(seed >> 8)
		code := pick % 256
		switch {
		case clears > 0 && pick/16%clears == 0:
			codes, size, previous = append(codes, 256), 258, false
			continue
		case previous && pick/4096%8 == 0:
			code = min(size, 4095)
		case size > 258 && pick/4096%8 < 4:
			code = 258 + pick/16%(size-258)
		}
		codes = append(codes, code)
		if previous && size < 4096 {
			size++
		}
		previous = true
	}
	return codes
}

// eachString goes through all strings of letters, up to a length.
func eachString(letters []byte, most int, visit func([]byte)) {
	var grow func([]byte)
	grow = func(s []byte) {
		visit(s)
		if len(s) == most {
			return
		}
		for _, c := range letters {
			grow(append(slices.Clone(s), c))
		}
	}
	grow(nil)
}

// checkDecode holds a call against the chapter's words.
func checkDecode(t *testing.T, b []byte, n int, old bool) {
	t.Helper()
	plain, err := call(b, n, old)
	want, wantErr := decoded(b, n, old)
	if !bytes.Equal(plain, want) || err != wantErr {
		t.Fatalf("old %t: %.80x, %d bytes: %d bytes, error %d: %.80x; want %d, error %d: %.80x", old, b, n, len(plain), err, plain, len(want), wantErr, want)
	}
}

// checkError asks for one error, with no bytes beside it.
func checkError(t *testing.T, b []byte, n int, old bool, want api.Errno) {
	t.Helper()
	if plain, err := call(b, n, old); len(plain) != 0 || err != want {
		t.Errorf("old %t: %.80x, %d bytes: %d bytes, error %d; want error %d", old, b, n, len(plain), err, want)
	}
}

// checkCodes asks for all that codes produce, in bytes that end with the last
// code, with End behind it, and with anything else behind it.
func checkCodes(t *testing.T, codes []int, old bool) {
	t.Helper()
	b, want := packed(codes, old)
	ended, _ := packed(append(slices.Clone(codes), 257), old)
	for _, with := range [][]byte{b, ended, append(slices.Clone(b), 255, 255, 255)} {
		if plain, err := call(with, len(want), old); !bytes.Equal(plain, want) || err != api.OK {
			t.Fatalf("old %t: %d codes: %d bytes, error %d; want %d", old, len(codes), len(plain), err, len(want))
		}
	}
	checkError(t, ended, len(want)+1, old, api.ErrCut)
	checkError(t, ended, math.MaxInt, old, api.ErrCut)
	if len(want) > 0 && codes[len(codes)-1] != 256 {
		checkError(t, b[:len(b)-1], len(want), old, api.ErrCut)
	}
}

// codesOf is the codes up to End, of which the encoded bytes must have nothing
// behind them but the 0 bits that fill up the last byte; and the greatest
// number of codes that the table had after one that Clear doesn't follow.
func codesOf(t *testing.T, b []byte) (codes []int, most int) {
	t.Helper()
	text := textOf(b, false)
	m := newModel(false)
	for {
		wide := m.width()
		if len(text) < wide {
			t.Fatalf("no End: %.80x", b)
		}
		code := numberOf(text[:wide], false)
		text = text[wide:]
		if code != 256 {
			most = max(most, len(m.table))
		}
		codes = append(codes, code)
		if code == 257 {
			break
		}
		if _, ok := m.take(code); !ok {
			t.Fatalf("code %d, number %d, is invalid", code, len(codes))
		}
	}
	if len(text) > 7 || strings.Contains(text, "1") {
		t.Fatalf("%q behind End", text)
	}
	return codes, most
}

// checkEncode asks for what P5.2 and P5.3 say of encoded bytes.
func checkEncode(t *testing.T, data []byte) {
	t.Helper()
	b := Encode(data)
	codes, most := codesOf(t, b)
	if codes[0] != 256 {
		t.Fatalf("the first code is %d", codes[0])
	}
	if most > 4094 {
		t.Fatalf("the table has %d codes", most)
	}
	for i, code := range codes[1:] {
		if code >= 256 && codes[i] == 256 && len(data) > 0 {
			t.Fatalf("code %d follows a Clear", code)
		}
	}
	if _, plain := packed(codes[:len(codes)-1], false); !bytes.Equal(plain, data) {
		t.Fatalf("%d bytes: the codes produce %d: %.80x; want %.80x", len(data), len(plain), plain, data)
	}
	if plain, err := Decode(b, len(data)); !bytes.Equal(plain, data) || err != api.OK {
		t.Fatalf("%d bytes come back as %d, error %d", len(data), len(plain), err)
	}
	checkError(t, b, len(data)+1, false, api.ErrCut)
}

// The numbers that the chapter gives names.
func TestConstants(t *testing.T) {
	if Clear != 256 || End != 257 || First != 258 || Most != 4096 {
		t.Error(Clear, End, First, Most)
	}
}

// P5.1: the chapter's example, 100000000 001100001 100000010 100000001, and
// others worked out by hand.
func TestDecodeOfKnownCodes(t *testing.T) {
	for _, c := range []struct {
		b     []byte
		old   bool
		plain string
	}{
		{[]byte{0x80, 0x18, 0x60, 0x50, 0x10}, false, "aaa"},
		{[]byte{0x80, 0x18, 0x60, 0x50, 0x10}, false, "a"},
		{[]byte{0x80, 0x18, 0x60, 0x50, 0x10}, false, ""},
		{[]byte{0x00, 0xc3, 0x08, 0x0c, 0x08}, true, "aaa"},
		{[]byte{0x61, 0xc4, 0x08}, true, "ab"},
		{[]byte{0x30, 0x98, 0x80}, false, "ab"},
		{nil, false, ""},
		{nil, true, ""},
		{[]byte{}, false, ""},
		{[]byte{255, 255, 255}, false, ""},
		{[]byte{255, 255, 255}, true, ""},
	} {
		if plain, err := call(c.b, len(c.plain), c.old); string(plain) != c.plain || err != api.OK {
			t.Errorf("old %t: %x = %q, %d; want %q", c.old, c.b, plain, err, c.plain)
		}
	}
}

// P5.1: what codes produce: no Clear at the start, Clears one behind the other,
// a table that is as at first behind a Clear, the next code ahead of its being
// added, strings of strings.
func TestDecodeOfShortCodes(t *testing.T) {
	for _, c := range []struct {
		codes []int
		plain string
	}{
		{[]int{256}, ""},
		{[]int{97}, "a"},
		{[]int{256, 97, 258}, "aaa"},
		{[]int{97, 258}, "aaa"},
		{[]int{97, 258, 259, 260}, "aaaaaaaaaa"},
		{[]int{97, 98, 258}, "abab"},
		{[]int{97, 98, 259}, "abbb"},
		{[]int{97, 98, 258, 260}, "abababa"},
		{[]int{97, 98, 258, 259, 260, 261}, "ababbaabbbaa"},
		{[]int{256, 256, 256, 97, 258}, "aaa"},
		{[]int{97, 98, 256, 99, 258}, "abccc"},
		{[]int{97, 98, 99, 256, 256, 100, 101, 258, 256, 102}, "abcdedef"},
		{[]int{97, 258, 256, 98, 99, 258, 259}, "aaabcbccb"},
		{[]int{0, 255, 258, 0}, "\x00\xff\x00\xff\x00"},
	} {
		for _, old := range kinds {
			b, _ := packed(c.codes, old)
			if plain, err := call(b, len(c.plain), old); string(plain) != c.plain || err != api.OK {
				t.Errorf("old %t: %v = %q, %d; want %q", old, c.codes, plain, err, c.plain)
			}
			checkCodes(t, c.codes, old)
		}
	}
}

// P5.1: the errors, and which one comes first. Beside an error there are no bytes.
func TestDecodeErrors(t *testing.T) {
	for _, c := range []struct {
		codes []int
		n     int
		want  api.Errno
	}{
		{nil, -1, api.ErrArg},
		{nil, math.MinInt, api.ErrArg},
		{[]int{97, 258}, -1, api.ErrArg},
		{[]int{300}, -1, api.ErrArg},
		{[]int{257}, -1, api.ErrArg},
		{nil, 1, api.ErrCut},
		{nil, math.MaxInt, api.ErrCut},
		{[]int{256}, 1, api.ErrCut},
		{[]int{256, 256}, 1, api.ErrCut},
		{[]int{257}, 1, api.ErrCut},
		{[]int{256, 257}, 1, api.ErrCut},
		{[]int{97, 257, 97}, 2, api.ErrCut},
		{[]int{97, 257, 300}, 2, api.ErrCut},
		{[]int{256, 257, 97}, 1, api.ErrCut},
		{[]int{97, 258}, 4, api.ErrCut},
		{[]int{97, 258, 257}, 4, api.ErrCut},
		{[]int{97, 258, 257}, math.MaxInt, api.ErrCut},
		{[]int{258}, 1, api.ErrCode},
		{[]int{511}, 1, api.ErrCode},
		{[]int{256, 258}, 1, api.ErrCode},
		{[]int{256, 259}, 1, api.ErrCode},
		{[]int{97, 259}, 2, api.ErrCode},
		{[]int{97, 259}, 9, api.ErrCode},
		{[]int{97, 511}, 2, api.ErrCode},
		{[]int{97, 98, 260}, 4, api.ErrCode},
		{[]int{97, 98, 256, 258}, 4, api.ErrCode},
		{[]int{97, 98, 256, 99, 259}, 9, api.ErrCode},
		{[]int{97, 259, 257}, 9, api.ErrCode},
		{[]int{97, 258}, 2, api.ErrLong},
		{[]int{97, 98, 258}, 3, api.ErrLong},
		{[]int{97, 258, 259}, 4, api.ErrLong},
		{[]int{97, 258, 259}, 5, api.ErrLong},
		{[]int{97, 258, 300}, 2, api.ErrLong},
		{[]int{97, 258, 257}, 2, api.ErrLong},
	} {
		for _, old := range kinds {
			b, _ := packed(c.codes, old)
			checkError(t, b, c.n, old, c.want)
		}
	}
}

// P5.1: once there are enough bytes, nothing more is looked at: neither a wrong
// code nor an End nor a cut.
func TestDecodeStopsWhenThereIsEnough(t *testing.T) {
	for _, old := range kinds {
		for _, behind := range [][]int{nil, {256}, {257}, {259}, {300}, {511, 511}, {256, 300}} {
			b, _ := packed(append([]int{256, 97, 98}, behind...), old)
			for n, want := range []string{"", "a", "ab"} {
				if plain, err := call(b, n, old); string(plain) != want || err != api.OK {
					t.Errorf("old %t: %v behind: %q, %d; want %q", old, behind, plain, err, want)
				}
			}
		}
	}
}

// P5.1: all of two bytes, with every number of bits that a code can lack.
func TestDecodeOfEveryTwoBytes(t *testing.T) {
	for first := range 256 {
		for second := range 256 {
			for n := range 3 {
				for _, old := range kinds {
					checkDecode(t, []byte{byte(first), byte(second)}, n, old)
				}
			}
		}
	}
}

// P5.1: all short strings of codes at which something differs.
func TestDecodeOfEveryFewCodes(t *testing.T) {
	letters := []int{0, 255, 256, 257, 258, 259, 260, 511}
	indexes := []byte{0, 1, 2, 3, 4, 5, 6, 7}
	eachString(indexes, 5, func(s []byte) {
		var codes []int
		for _, i := range s {
			codes = append(codes, letters[i])
		}
		for _, old := range kinds {
			b, plain := packed(codes, old)
			for _, n := range []int{-1, 0, 1, 2, 3, len(plain) - 1, len(plain), len(plain) + 1} {
				checkDecode(t, b, n, old)
			}
		}
	})
}

// P5.1: the width of the code behind so many codes in the table, around each
// number at which it changes, and of the codes that are valid there.
func TestDecodeWhereTheWidthChanges(t *testing.T) {
	for _, edge := range []int{259, 511, 1023, 2047, 4094} {
		for size := edge - 1; size <= edge+4; size++ {
			for _, code := range []int{0, 255, 256, 257, 258, 510, 511, 512, 1022, 1023, 1024, 2046, 2047, 2048, 4094, 4095, size - 2, size - 1, size, size + 1} {
				for _, old := range kinds {
					codes := counted(min(size, 4096))
					m := newModel(old)
					for _, c := range codes {
						m.take(c)
					}
					if code >= 1<<m.width() {
						continue
					}
					b, plain := packed(append(codes, code, 97, 98), old)
					for _, n := range []int{len(codes) + 1, len(plain), len(plain) + 1} {
						checkDecode(t, b, n, old)
					}
				}
			}
		}
	}
}

// P5.1: the numbers at which codes get wider, one bit at a time: with one bit
// fewer than that width there is no code. In the old variant it is one later.
func TestDecodeOfACodeThatIsCut(t *testing.T) {
	for _, c := range []struct{ size, width, oldWidth int }{
		{258, 9, 9}, {510, 9, 9}, {511, 10, 9}, {512, 10, 10}, {1022, 10, 10}, {1023, 11, 10}, {1024, 11, 11},
		{2046, 11, 11}, {2047, 12, 11}, {2048, 12, 12}, {4094, 12, 12}, {4095, 12, 12}, {4096, 12, 12}, {5000, 12, 12},
	} {
		for _, old := range kinds {
			wide := c.width
			if old {
				wide = c.oldWidth
			}
			codes := counted(c.size)
			b, plain := packed(codes, old)
			bits := codeBits(codes, old)
			text := textOf(b, old)[:bits]
			for lack := range wide + 1 {
				// A code of 0 bits stands behind them, as far as whole bytes allow it.
				whole := bytesOf(text+strings.Repeat("0", wide-lack), old)
				want := api.ErrCut
				if 8*len(whole) >= bits+wide {
					want = api.OK
				}
				if _, err := call(whole, len(plain)+1, old); err != want {
					t.Errorf("old %t: %d codes, %d bits short: error %d; want %d", old, c.size, lack, err, want)
				}
			}
		}
	}
}

// codeBits is how many bits codes have, none of them Clear.
func codeBits(codes []int, old bool) int {
	bits := 0
	m := newModel(old)
	for _, code := range codes {
		bits += m.width()
		m.take(code)
	}
	return bits
}

// P5.1: a full table stays as it is: its last code has the string that it was
// given, and no further code is added, until a Clear comes.
func TestDecodeWithAFullTable(t *testing.T) {
	for _, old := range kinds {
		full := counted(4096)
		for _, behind := range [][]int{
			{4095}, {4095, 4095, 4095}, {4094, 4095, 97, 4095, 258}, {0, 1, 2, 3, 4, 5, 4095, 4094}, {256, 97, 258, 259}, {4095, 256, 97, 98, 258},
		} {
			checkCodes(t, append(slices.Clone(full), behind...), old)
		}
		b, _ := packed(append(slices.Clone(full), 4095, 256, 511), old)
		checkError(t, b, len(full)+3, old, api.ErrCode)
		// Of one code fewer the last one is the next to be added.
		checkCodes(t, append(counted(4095), 4095, 4095, 98), old)
	}
}

// P5.1
func TestDecodeOfMixedCodes(t *testing.T) {
	for seed := range uint32(60) {
		for _, old := range kinds {
			checkCodes(t, mixedCodes(1200, seed, 0), old)
			checkCodes(t, mixedCodes(1200, seed, 300), old)
			checkCodes(t, mixedCodes(200, seed, 10), old)
		}
	}
	for _, old := range kinds {
		checkCodes(t, mixedCodes(9000, 7, 0), old)
		checkCodes(t, mixedCodes(20000, 8, 6000), old)
	}
}

// P5.1: bytes that nobody encoded, from which an error comes soon or late.
func TestDecodeOfMixedBytes(t *testing.T) {
	for seed := range uint32(3000) {
		b := mixed(60, seed, 256)
		codes := mixedCodes(int(seed)%700, seed, 0)
		for _, old := range kinds {
			valid, _ := packed(codes, old)
			for _, n := range []int{1, 2, 3, 10, math.MaxInt} {
				checkDecode(t, b, n, old)
			}
			checkDecode(t, append(valid, b...), math.MaxInt, old)
		}
	}
}

// P5.1: any one bit of encoded bytes may be wrong.
func TestDecodeOfWrongBits(t *testing.T) {
	data := mixed(600, 3, 6)
	b := Encode(data)
	for i := range 8 * len(b) {
		wrong := slices.Clone(b)
		wrong[i/8] ^= 1 << (i % 8)
		checkDecode(t, wrong, len(data), false)
		checkDecode(t, wrong, len(data), true)
	}
}

// P5.2: what the choice of codes leaves no freedom for.
func TestEncodeOfKnownBytes(t *testing.T) {
	for _, c := range []struct {
		data string
		want []byte
	}{
		{"", []byte{0x80, 0x40, 0x40}},
		{"a", []byte{0x80, 0x18, 0x60, 0x20}},
	} {
		if got := Encode([]byte(c.data)); !bytes.Equal(got, c.want) {
			t.Errorf("%q: %x; want %x", c.data, got, c.want)
		}
	}
	if got := Encode(nil); !bytes.Equal(got, []byte{0x80, 0x40, 0x40}) {
		t.Errorf("nothing: %x", got)
	}
}

// P5.2: strings that came are used: the chapter's example, and equal bytes, of
// which each code takes one more than the one ahead of it.
func TestEncodeUsesStringsThatCame(t *testing.T) {
	if got := Encode([]byte("aaa")); !bytes.Equal(got, []byte{0x80, 0x18, 0x60, 0x50, 0x10}) {
		t.Errorf("%x", got)
	}
	codes, _ := codesOf(t, Encode(bytes.Repeat([]byte{7}, 5050)))
	if len(codes) != 102 {
		t.Errorf("%d codes; want 102", len(codes))
	}
}

// P5.2, P5.3
func TestEncodeOfEveryShortString(t *testing.T) {
	visit := func(data []byte) { checkEncode(t, data) }
	eachString([]byte{0, 255}, 10, visit)
	eachString([]byte{1, 128, 255}, 6, visit)
	for c := range 256 {
		checkEncode(t, []byte{byte(c)})
		checkEncode(t, []byte{byte(c), byte(c), byte(c)})
	}
}

// P5.2: bytes that end around each number of codes at which the width changes,
// and at which the table must be cleared, once and again.
func TestEncodeUpToEveryEdge(t *testing.T) {
	data := pairless(3*3837 + 300)
	const section = 4094 - 257 // codes between two Clears at most
	for _, codes := range []int{254, 766, 1790, section, section + 254, section + 1790, 2 * section, 3 * section} {
		for n := codes - 4; n <= codes+4; n++ {
			checkEncode(t, data[:n])
		}
	}
}

// P5.2: a table that has as many codes as it may have needs no Clear if
// nothing but End follows; the code that would follow it does.
func TestEncodeClearsWhenItMust(t *testing.T) {
	for n, want := range map[int]int{3836: 1, 3837: 1, 3839: 2, 7674: 2, 7678: 3} {
		codes, most := codesOf(t, Encode(pairless(n)))
		clears := 0
		for _, code := range codes {
			if code == 256 {
				clears++
			}
		}
		if clears < want || most > 4094 {
			t.Errorf("%d bytes: %d Clears, %d codes in the table; want %d Clears at least", n, clears, most, want)
		}
	}
}

// P5.2, P5.3
func TestEncodeOfMixedBytes(t *testing.T) {
	for seed := range uint32(100) {
		for _, letters := range []int{1, 2, 3, 16, 256} {
			checkEncode(t, mixed(int(seed)*7, seed, letters))
		}
	}
	for _, letters := range []int{2, 4, 16, 256} {
		checkEncode(t, mixed(30000, 5, letters))
	}
}

// P5.2, P5.3: patterns that come again after a while, ahead of a Clear and behind it.
func TestEncodeOfPatterns(t *testing.T) {
	for _, length := range []int{1, 2, 3, 7, 100, 255, 256, 257, 3837, 4000} {
		checkEncode(t, bytes.Repeat(mixed(length, 9, 256), 12000/length))
		checkEncode(t, bytes.Repeat(pairless(length), 12000/length))
	}
}

// P5.3: so many equal bytes that the table is full of their strings, the
// longest ones that there are.
func TestEncodeOfMillionsOfEqualBytes(t *testing.T) {
	const full = 3837 * 3838 / 2
	for _, n := range []int{full - 1, full, full + 1, full + 5001} {
		data := bytes.Repeat([]byte{200}, n)
		b := Encode(data)
		if plain, err := Decode(b, n); !bytes.Equal(plain, data) || err != api.OK {
			t.Errorf("%d bytes come back as %d, error %d", n, len(plain), err)
		}
		checkError(t, b, n+1, false, api.ErrCut)
		checkError(t, b, full-2, false, api.ErrLong)
	}
}

// P5.1, P5.3: the same codes in the old variant produce the same bytes.
func TestDecodeOldOfEncodedCodes(t *testing.T) {
	for _, letters := range []int{1, 3, 256} {
		data := mixed(9000, 11, letters)
		codes, _ := codesOf(t, Encode(data))
		b, _ := packed(codes, true)
		if plain, err := DecodeOld(b, len(data)); !bytes.Equal(plain, data) || err != api.OK {
			t.Errorf("%d letters: %d bytes, error %d", letters, len(plain), err)
		}
	}
}

// P5.1: all of the encoded bytes but End's are needed.
func TestDecodeOfEncodedBytesThatAreCut(t *testing.T) {
	for _, letters := range []int{2, 256} {
		data := mixed(900, 17, letters)
		b := Encode(data)
		for n := range len(b) - 2 {
			checkError(t, b[:n], len(data), false, api.ErrCut)
		}
	}
}

// P2, with the rules that arguments are neither changed nor shared, and that
// elements beyond a slice's length aren't read.
func TestTheSameCallAnswersTheSame(t *testing.T) {
	full := mixed(9000, 21, 40)
	kept := slices.Clone(full)
	data := full[:8000]
	b := Encode(data)
	for range 3 {
		if !bytes.Equal(Encode(data), b) || !bytes.Equal(Encode(slices.Clone(data)), b) {
			t.Error("another answer")
		}
		Encode([]byte("something else"))
		if plain, err := Decode(b, len(data)); !bytes.Equal(plain, data) || err != api.OK {
			t.Error(len(plain), err)
		}
	}
	if !bytes.Equal(full, kept) {
		t.Error("the argument was changed")
	}
	clear(full[8000:])
	if !bytes.Equal(Encode(data), b) {
		t.Error("what lies beyond the length counts")
	}
	checkError(t, b[:len(b)-4], len(data), false, api.ErrCut)
	clear(full)
	if plain, _ := Decode(b, len(data)); !bytes.Equal(plain, kept[:8000]) {
		t.Error("the encoded bytes are shared with the argument")
	}
}

// The rule that a result shares no memory with an argument or another result.
func TestDecodedBytesAreNotShared(t *testing.T) {
	for _, old := range kinds {
		b, want := packed([]int{256, 97, 98, 258, 260, 257}, old)
		kept := slices.Clone(b)
		one, _ := call(b, len(want), old)
		other, _ := call(b, len(want), old)
		clear(one[:cap(one)])
		if !bytes.Equal(b, kept) || !bytes.Equal(other, want) {
			t.Error(b, other)
		}
	}
	one, other := Encode([]byte("abc")), Encode([]byte("abc"))
	kept := slices.Clone(other)
	clear(one[:cap(one)])
	if !bytes.Equal(other, kept) {
		t.Error(other)
	}
}

// P1: whatever comes, the calls end, and they answer by the chapter's words.
func FuzzEveryCallEnds(f *testing.F) {
	f.Add([]byte{0x80, 0x18, 0x60, 0x50, 0x10}, 3)
	f.Add([]byte{0x61, 0xc4, 0x08}, 2)
	f.Add([]byte("abcabcabcaaaaaa"), -1)
	f.Fuzz(func(t *testing.T, data []byte, n int) {
		kept := slices.Clone(data)
		checkEncode(t, data)
		for _, old := range kinds {
			checkDecode(t, data, n, old)
			checkDecode(t, data, n&0xff, old)
		}
		if !bytes.Equal(data, kept) {
			t.Error("an argument was changed")
		}
	})
}
