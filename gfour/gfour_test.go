package gfour

import (
	"bytes"
	"math"
	"slices"
	"strings"
	"testing"

	"mezzotint/api"
	"mezzotint/bits"
	"mezzotint/faxcode"
	"mezzotint/mh"
)

// The tests' own model goes by texts of 0 and 1. Single rows are layer 14's.

// eol is layer 13's EOL, and ending what ends a page.
const (
	eol    = "000000000001"
	ending = "000000000001 000000000001"
)

var codes = faxcode.New()

// againstText is the bits of a row in two-dimensional coding.
func againstText(row, above []int, width int) string {
	w := bits.NewWriter(false)
	mh.WriteAgainst(w, codes, row, above, width)
	return textOf(w.Bytes())[:w.Len()]
}

// rowsText is the bits of the rows of a page, by the chapter's words.
func rowsText(rows [][]int, width int) string {
	var text strings.Builder
	above := []int{}
	for _, row := range rows {
		text.WriteString(againstText(row, above, width))
		above = row
	}
	return text.String()
}

// pageText is the bits that Encode must answer.
func pageText(rows [][]int, width int) string { return rowsText(rows, width) + eol + eol }

// rowsOf is what Decode must answer, by the chapter's words.
func rowsOf(text string, width, n int) ([][]int, api.Errno) {
	var rows [][]int
	above := []int{}
	for range n {
		if strings.HasPrefix(text, eol+eol) {
			return nil, api.ErrCut
		}
		r := readerOf(text)
		row, err := mh.ReadAgainst(r, codes, above, width)
		if err != api.OK {
			return nil, err
		}
		text = text[len(text)-r.Left():]
		rows, above = append(rows, row), row
	}
	return rows, api.OK
}

// bytesOf is the bytes that have the bits of a text; the last one is filled up.
func bytesOf(text string) []byte {
	w := bits.NewWriter(false)
	w.Word(text)
	return w.Bytes()
}

// readerOf is a reader that has exactly the bits of a text left.
func readerOf(text string) *bits.Reader {
	before := (8 - len(text)%8) % 8
	r := bits.NewReader(bytesOf("10110101"[:before]+text), false)
	r.Read(before)
	return r
}

// textOf is the bits of bytes.
func textOf(b []byte) string {
	var text strings.Builder
	for _, c := range b {
		for i := range 8 {
			text.WriteByte('0' + c<<i>>7)
		}
	}
	return text.String()
}

// plain is a text without blanks.
func plain(text string) string { return strings.ReplaceAll(text, " ", "") }

// eachText goes through all texts of 0 and 1 up to a length.
func eachText(most int, visit func(string)) {
	for length := range most + 1 {
		for n := range 1 << length {
			text := []byte(strings.Repeat("0", length))
			for i := range text {
				text[i] += byte(n >> i & 1)
			}
			visit(string(text))
		}
	}
}

// allRows is the changes of all rows of a width.
func allRows(width int) [][]int {
	var rows [][]int
	for n := range 1 << width {
		var changes []int
		for x := range width {
			if n>>x&1 == 1 {
				changes = append(changes, x)
			}
		}
		rows = append(rows, changes)
	}
	return rows
}

// eachPage goes through all pages of some rows, up to a number of them.
func eachPage(list [][]int, most int, visit func([][]int)) {
	var grow func([][]int)
	grow = func(rows [][]int) {
		visit(rows)
		if len(rows) == most {
			return
		}
		for _, row := range list {
			grow(append(slices.Clip(rows), row))
		}
	}
	grow(nil)
}

// mixed is n numbers below a bound that follow no simple pattern, the same for
// the same seed.
func mixed(n int, seed uint32, bound int) []int {
	numbers := make([]int, n)
	for i := range numbers {
		seed = seed*1664525 + 1013904223
		numbers[i] = int(seed>>8) % bound
	}
	return numbers
}

// mixedPage is a page whose rows change at some places, most of them near those
// of the row above.
func mixedPage(width, count int, seed uint32) [][]int {
	var rows [][]int
	places := mixed(1+int(seed%9), seed, width)
	for y := range count {
		by := mixed(len(places), seed+uint32(y)*77, 9)
		for i := range places {
			if by[i] == 0 {
				places[i] = (places[i] + 7*y) % width
			} else {
				places[i] = min(max(places[i]+by[i]-5, 0), width-1)
			}
		}
		row := slices.Clone(places)
		slices.Sort(row)
		rows = append(rows, slices.Compact(row))
	}
	return rows
}

// isPage tells whether rows are others.
func isPage(rows, others [][]int) bool {
	return slices.EqualFunc(rows, others, func(a, b []int) bool { return slices.Equal(a, b) })
}

// checkPage holds Encode against the chapter's words, and whether Decode reads
// the rows back, all of them or the first ones, but no more.
func checkPage(t *testing.T, rows [][]int, width int) {
	t.Helper()
	want := bytesOf(pageText(rows, width))
	b, err := Encode(rows, width)
	if !bytes.Equal(b, want) || err != api.OK {
		t.Fatalf("Encode(%v, %d): %x, error %d; want %x", rows, width, b, err, want)
	}
	for n := range len(rows) + 1 {
		if got, err := Decode(b, width, n); !isPage(got, rows[:n]) || err != api.OK {
			t.Fatalf("Decode(%x, %d, %d): %v, error %d; want %v", b, width, n, got, err, rows[:n])
		}
	}
	for _, n := range []int{len(rows) + 1, len(rows) + 2, math.MaxInt} {
		if got, err := Decode(b, width, n); len(got) != 0 || err != api.ErrCut {
			t.Fatalf("Decode(%x, %d, %d): %v, error %d; want ErrCut", b, width, n, got, err)
		}
	}
}

// checkDecode holds Decode against the chapter's words for any bytes.
func checkDecode(t *testing.T, b []byte, width, n int) {
	t.Helper()
	want, wantErr := rowsOf(textOf(b), width, n)
	if rows, err := Decode(b, width, n); !isPage(rows, want) || err != wantErr {
		t.Fatalf("Decode(%x, %d, %d): %v, error %d; want %v, error %d", b, width, n, rows, err, want, wantErr)
	}
}

// P16.1: the chapter's example, and others worked out by hand.
func TestKnownPages(t *testing.T) {
	for _, x := range []struct {
		rows  [][]int
		width int
		text  string
	}{
		{nil, 8, ""},
		{nil, 32768, ""},
		{[][]int{{}}, 8, "1"},
		{[][]int{nil}, 1, "1"},
		{[][]int{{}, {}, {}}, 8, "1 1 1"},
		{[][]int{{0}}, 1, "010 1"},
		{[][]int{{0}, {0}, {}}, 1, "010 1, 1 1, 011"},
		{[][]int{{0}}, 3, "0000010 1"},
		{[][]int{{0}}, 8, "001 00110101 000101"},
		// the first row, below a white one
		{[][]int{{2, 4, 7}}, 8, "001 0111 11 010 1"},
		{[][]int{{5}}, 8, "0000010 1"},
		{[][]int{{6}}, 8, "000010 1"},
		{[][]int{{4}}, 8, "001 1011 011"},
		{[][]int{{4, 7}}, 8, "001 1011 10 1"},
		// each of the others below the one ahead of it
		{[][]int{{4, 7}, {4, 7}, {4, 7}}, 8, "001 1011 10 1, 1 1 1, 1 1 1"},
		{[][]int{{2, 4, 7}, {2, 5, 7}, {}, {0}}, 8, "001 0111 11 010 1, 1 011 1 1, 0001 011, 001 00110101 000101"},
		{[][]int{{7}, {6}, {5}, {4}}, 8, "010 1, 010 1, 010 1, 010 1"},
		{[][]int{{7}, {}, {7}}, 8, "010 1, 011, 010 1"},
		{[][]int{{3}, {6}, {4}, {5}, {2}}, 8, "001 1000 0011, 0000011 1, 000010 1, 011 1, 0000010 1"},
		{[][]int{{2}, {4}, {0}, {4}}, 8, "001 0111 0010, 000011 1, 001 00110101 000101, 001 1011 011"},
		{[][]int{{0}, {1, 3}, {}}, 8, "001 00110101 000101, 011 001 11 1100, 0001 1"},
		// lengths of more than one word
		{[][]int{{2570}}, 5200, "001 000000011111 00111 000000011111 0000001111 0010"},
		{[][]int{{}, {0}}, 32768, "1, 001 00110101" + strings.Repeat("000000011111", 12) + "000000010011 0000110111"},
	} {
		rows := strings.ReplaceAll(plain(x.text), ",", "")
		text := rows + eol + eol
		want := bytesOf(text)
		if b, err := Encode(x.rows, x.width); !bytes.Equal(b, want) || err != api.OK {
			t.Errorf("Encode(%v, %d): %s, error %d; want %s", x.rows, x.width, textOf(b), err, text)
		}
		for _, b := range [][]byte{want, bytesOf(rows)} {
			if got, err := Decode(b, x.width, len(x.rows)); !isPage(got, x.rows) || err != api.OK {
				t.Errorf("Decode(%x, %d, %d): %v, error %d; want %v", b, x.width, len(x.rows), got, err, x.rows)
			}
		}
		if got := pageText(x.rows, x.width); got != text {
			t.Errorf("the test's own model of %v, %d is %s; want %s", x.rows, x.width, got, text)
		}
	}
}

// P16.1, P16.3: all pages of the first widths up to a number of rows.
func TestShortPagesAreReadBack(t *testing.T) {
	for i, most := range []int{7, 4, 3, 2, 2, 2} {
		eachPage(allRows(i+1), most, func(rows [][]int) { checkPage(t, rows, i+1) })
	}
}

// P16.1, P16.3: others, up to the greatest width.
func TestPagesAreReadBack(t *testing.T) {
	for seed := range uint32(1000) {
		width := 1 + mixed(1, seed, 300)[0]
		checkPage(t, mixedPage(width, int(seed%14), seed), width)
	}
	for _, width := range []int{1, 2, 8, 64, 1728, 2560, 2561, 32767, 32768} {
		checkPage(t, [][]int{{0}, nil, {width - 1}, {width / 2}, nil, {0}}, width)
		for seed := range uint32(10) {
			checkPage(t, mixedPage(width, 6, seed), width)
		}
	}
}

// P16.2: EOL twice ahead of a row is the end, from whichever bit on; nothing
// else is.
func TestEndsOfPages(t *testing.T) {
	pages := [][][]int{nil, {{2, 4, 7}}, {{}, {0}}, {{2, 4, 7}, {2, 5, 7}, {}}}
	for n := range 8 {
		pages = append(pages, make([][]int, n+1))
	}
	for _, rows := range pages {
		lead, count := rowsText(rows, 8), len(rows)
		for _, rest := range []string{"", "1", "1111 1111 1111", "0001", "10000000 00010000 00000001", ending} {
			b := bytesOf(plain(lead + ending + rest))
			for _, n := range []int{1, 2, math.MaxInt - count} {
				if got, err := Decode(b, 8, count+n); len(got) != 0 || err != api.ErrCut {
					t.Errorf("Decode(%s, 8, %d): %v, error %d; want ErrCut", textOf(b), count+n, got, err)
				}
			}
			if got, err := Decode(b, 8, count); !isPage(got, rows) || err != api.OK {
				t.Errorf("Decode(%s, 8, %d): %v, error %d; want %v", textOf(b), count, got, err, rows)
			}
		}
		for _, other := range []string{
			eol,
			eol + "1",
			eol + "1111 1111 1111",
			eol + "0000 0000 0011",
			eol + "1 000000000001",
			eol + "0 000000000001",
			eol + "00000000001",
			eol + "00000000000",
			eol + "00000000000 00000000",
			"0" + ending,
			"0000000" + ending,
			"0000000000 000000000001",
			"000000000000 000000000000",
			"000000000000 000000000001",
			"000000000011 000000000001",
			"000000010001 000000000001",
		} {
			b := bytesOf(plain(lead + other))
			if got, err := Decode(b, 8, count+1); len(got) != 0 || err != api.ErrCode {
				t.Errorf("Decode(%s, 8, %d): %v, error %d; want ErrCode", textOf(b), count+1, got, err)
			}
		}
		for i := range 24 {
			changed := []byte(eol + eol)
			changed[i] ^= 1
			checkDecode(t, bytesOf(lead+string(changed)+"1010101010"), 8, count+1)
		}
	}
}

// P16.2: what comes of bits, worked out by hand; the first row with an error
// decides.
func TestKnownReadings(t *testing.T) {
	for _, x := range []struct {
		text  string
		width int
		n     int
		rows  [][]int
		err   api.Errno
	}{
		// none of the rows
		{"", 8, 0, nil, api.OK},
		{ending, 8, 0, nil, api.OK},
		{"00000000", 8, 0, nil, api.OK},
		{"11111111", 8, 0, nil, api.OK},
		// no bits
		{"", 8, 1, nil, api.ErrCut},
		{"", 1, math.MaxInt, nil, api.ErrCut},
		{"11111111", 8, 8, make([][]int, 8), api.OK},
		{"11111111", 8, 9, nil, api.ErrCut},
		{"11111111", 8, math.MaxInt, nil, api.ErrCut},
		// the bits of the last byte behind a row are none of a row
		{"11 000000", 8, 3, nil, api.ErrCut},
		{"1 0000000", 8, 2, nil, api.ErrCode},
		{"1111 0001", 32768, 5, make([][]int, 5), api.OK},
		{"11111 001", 32768, 6, nil, api.ErrCut},
		// the first row is below a white one
		{"1", 8, 1, [][]int{nil}, api.OK},
		{"0001", 8, 1, [][]int{nil}, api.OK},
		{"000010 1", 8, 1, [][]int{{6}}, api.OK},
		{"001 0111 11 1", 8, 1, [][]int{{2, 4}}, api.OK},
		{"001 0111 11, 1", 4, 2, nil, api.ErrCut},
		{"001 0111 11, 1 1", 4, 2, [][]int{{2}, {2}}, api.OK},
		{"011", 8, 1, nil, api.ErrForm},
		// each of the others is below the one ahead of it
		{"010 1, 010 1, 010 1", 8, 3, [][]int{{7}, {6}, {5}}, api.OK},
		{"001 0111 0010, 1 1, 011 1, 0001", 8, 4, [][]int{{2}, {2}, {3}, nil}, api.OK},
		{"001 0111 11 1, 1 011 1, 0001 1, 1", 8, 4, [][]int{{2, 4}, {2, 5}, nil, nil}, api.OK},
		{"001 0111 11 1, 0001 1, 010 1", 8, 3, [][]int{{2, 4}, nil, {7}}, api.OK},
		{"010 1, 011, 011", 8, 3, nil, api.ErrForm},
		{"010 1, 011, 1", 8, 3, [][]int{{7}, nil, nil}, api.OK},
		// ways of a row that Encode doesn't take
		{"001 10011 0000110111", 8, 1, [][]int{nil}, api.OK},
		{"001 10100 0000110111", 8, 1, nil, api.ErrLong},
		{"001 0111 0000110111 1", 8, 1, [][]int{nil}, api.OK},
		{"001 0111 0000110111 010 1", 8, 1, [][]int{{7}}, api.OK},
		{"001 00110101 0000110111 001 1000 11 1", 8, 1, [][]int{{3, 5}}, api.OK},
		{"001 0111 11 1, 1 001 11 0111 1", 8, 2, [][]int{{2, 4}, {2, 4, 6}}, api.OK},
		{"001 0111 11 1, 1 001 11 0111 010 1", 8, 2, [][]int{{2, 4}, {2, 4, 6, 7}}, api.OK},
		{"001 0111 11 1, 1 001 11 0111 0011", 8, 2, nil, api.ErrCut},
		{"001 0111 11 1, 1 001 11 0111 001 11 00110101", 8, 2, [][]int{{2, 4}, {2, 4, 6}}, api.OK},
		// layer 14's errors
		{"001 10100", 8, 1, nil, api.ErrLong},
		{"1, 001 10011 010", 8, 2, nil, api.ErrLong},
		{"0000001", 8, 1, nil, api.ErrSupport},
		{"1 1 0000001", 8, 3, nil, api.ErrSupport},
		{"0000000", 8, 1, nil, api.ErrCode},
		{"001 00000000", 8, 1, nil, api.ErrCode},
		{"1, 010", 8, 2, nil, api.ErrCut},
		{"1, 0001, 0000010", 8, 3, nil, api.ErrCut},
		{"010 1, 0000011, 1", 8, 3, nil, api.ErrForm},
		{"010 1, 0000011 0000001", 8, 3, nil, api.ErrForm},
		{"0000001, 011", 8, 2, nil, api.ErrSupport},
		// the end within a row is none
		{"010 " + ending, 8, 1, nil, api.ErrCode},
		{"001 " + ending, 8, 1, nil, api.ErrCode},
		{"001 0111 " + ending, 8, 1, nil, api.ErrCode},
		{"1, 010 1, 1 " + ending, 8, 3, nil, api.ErrCode},
		// it ends the rows, whatever follows
		{ending + "1", 8, 1, nil, api.ErrCut},
		{"1 " + ending + "1", 8, 2, nil, api.ErrCut},
		{"1 " + ending + "1", 8, 1, [][]int{nil}, api.OK},
		{"1 " + eol + "1", 8, 1, [][]int{nil}, api.OK},
		{"1 " + eol + "1", 8, 2, nil, api.ErrCode},
	} {
		if x.err != api.OK {
			x.rows = nil
		}
		b := bytesOf(strings.ReplaceAll(plain(x.text), ",", ""))
		if x.n < 1000 {
			want, wantErr := rowsOf(textOf(b), x.width, x.n)
			if !isPage(want, x.rows) || wantErr != x.err {
				t.Errorf("the test's own model of %s, %d, %d: %v, error %d; want %v, error %d", x.text, x.width, x.n, want, wantErr, x.rows, x.err)
			}
		}
		if rows, err := Decode(b, x.width, x.n); !isPage(rows, x.rows) || err != x.err {
			t.Errorf("Decode(%s, %d, %d): %v, error %d; want %v, error %d", x.text, x.width, x.n, rows, err, x.rows, x.err)
		}
	}
}

// P16.2: all texts up to a length, behind nothing, behind a row, and ahead of
// the end.
func TestDecodeOfEveryShortText(t *testing.T) {
	eachText(12, func(text string) {
		for _, width := range []int{1, 3, 8} {
			checkDecode(t, bytesOf(text), width, 1)
			checkDecode(t, bytesOf(text+eol+eol), width, 3)
		}
		checkDecode(t, bytesOf("0010111110101"+text+"10110101"), 8, 2)
	})
}

// P16.2: all data of two bytes, some of more, and some with the end of a page
// at any bit, whole or not.
func TestDecodeOfShortData(t *testing.T) {
	for n := range 1 << 16 {
		b := []byte{byte(n >> 8), byte(n), 0x10, 0x01, 0x80}
		checkDecode(t, b[:2], 8, 1+n%4)
		if n%9 == 0 {
			checkDecode(t, b, 2+n%3, 1+n%5)
		}
	}
	for k := range 17 {
		whole := "1011010110110101"[:k] + eol + eol + "1011"
		for n := range 1 << 8 {
			b := append(bytesOf(whole), byte(n))
			b[n%len(b)] ^= byte(n)
			checkDecode(t, b, 2, 1+n%9)
		}
	}
}

// P16.2: a page that is cut at any byte, or changed at any bit.
func TestPagesThatAreDamaged(t *testing.T) {
	for seed := range uint32(40) {
		rows := mixedPage(60, 5, seed)
		b, _ := Encode(rows, 60)
		for k := range len(b) {
			checkDecode(t, b[:k], 60, 5)
		}
		for k := range 8 * len(b) {
			other := bytes.Clone(b)
			other[k/8] ^= 0x80 >> (k % 8)
			checkDecode(t, other, 60, 5)
			checkDecode(t, other, 60, 6)
		}
	}
}

// P16.2: what follows the last row doesn't matter.
func TestWhatFollowsTheLastRow(t *testing.T) {
	for seed := range uint32(20) {
		rows := mixedPage(60, 1+int(seed%6), seed)
		text := rowsText(rows, 60)
		for _, rest := range []string{"", "0", "1", "11111111", "0000000", "00000000 00000000", "0000001 1", eol, eol + "1", ending, ending + "10110101", "10110101 10110101"} {
			b := bytesOf(plain(text + rest))
			if got, err := Decode(b, 60, len(rows)); !isPage(got, rows) || err != api.OK {
				t.Errorf("%s: %v, error %d; want %v", textOf(b), got, err, rows)
			}
		}
	}
}

// isWrong asks whether Encode has ErrArg, and answers nothing beside it.
func isWrong(t *testing.T, rows [][]int, width int) {
	t.Helper()
	if b, err := Encode(rows, width); len(b) != 0 || err != api.ErrArg {
		t.Errorf("Encode(%v, %d): %x, error %d", rows, width, b, err)
	}
}

// isWrongToDecode asks whether Decode has ErrArg, whatever the bits are.
func isWrongToDecode(t *testing.T, width, n int) {
	t.Helper()
	for _, b := range [][]byte{nil, {0xff}, {0, 0}, {0, 0x10, 0x01}, {0xc0, 0x04, 0, 0x40}} {
		if rows, err := Decode(b, width, n); len(rows) != 0 || err != api.ErrArg {
			t.Errorf("Decode(%x, %d, %d): %v, error %d", b, width, n, rows, err)
		}
	}
}

// P16.1, P16.2: ErrArg for a width that no row has.
func TestWrongWidths(t *testing.T) {
	for _, width := range []int{math.MinInt, math.MinInt32, -32768, -8, -1, 0, 32769, 32776, 65536, 65544, 1 << 31, 1 << 32, 1<<32 + 8, math.MaxInt - 1, math.MaxInt} {
		for _, rows := range [][][]int{nil, {}, {nil}, {{0}}, {{2, 4, 7}, nil}, {{-1}}} {
			isWrong(t, rows, width)
		}
		for _, n := range []int{math.MinInt, -1, 0, 1, 2, math.MaxInt} {
			isWrongToDecode(t, width, n)
		}
	}
	for _, width := range []int{1, 2, 32767, 32768} {
		if b, err := Encode([][]int{nil}, width); !bytes.Equal(b, []byte{0x80, 0x08, 0, 0x80}) || err != api.OK {
			t.Error(width, b, err)
		}
		if rows, err := Decode([]byte{0x80}, width, 1); !isPage(rows, [][]int{nil}) || err != api.OK {
			t.Error(width, rows, err)
		}
	}
}

// P16.1: ErrArg for changes that aren't valid, in whichever row.
func TestWrongRows(t *testing.T) {
	for _, row := range [][]int{{-1}, {8}, {9}, {math.MinInt}, {math.MaxInt}, {3, 3}, {3, 2}, {0, 0}, {-1, 2}, {2, 8}, {1, 2, 2}, {1, 3, 2, 4}, {0, 1, 2, 3, 4, 5, 6, 7, 8}} {
		for _, rows := range [][][]int{{row}, {nil, row}, {row, nil}, {nil, nil, row}, {{2, 4, 7}, {0}, row, row}, {nil, nil, nil, nil, row, {2}}} {
			isWrong(t, rows, 8)
		}
	}
}

// P16.2: ErrArg if there are to be fewer than no rows.
func TestFewerThanNoRows(t *testing.T) {
	for _, n := range []int{math.MinInt, math.MinInt32, -2, -1} {
		for _, width := range []int{1, 8, 32768} {
			isWrongToDecode(t, width, n)
		}
	}
}

// Rule 3: nothing that is handed in is changed, nor what lies behind its end
// read.
func TestArgumentsStayAsTheyAre(t *testing.T) {
	full := []int{2, 4, 7, 1, 1}
	above := []int{0, 5, 99}
	rows := [][]int{full[:3], above[:2], full[:2], {50}}
	want := pageText(rows[:3], 8)
	b, err := Encode(rows[:3], 8)
	if !bytes.Equal(b, bytesOf(want)) || err != api.OK {
		t.Error(b, err)
	}
	if !slices.Equal(full, []int{2, 4, 7, 1, 1}) || !slices.Equal(above, []int{0, 5, 99}) || !isPage(rows, [][]int{{2, 4, 7}, {0, 5}, {2, 4}, {50}}) {
		t.Error(full, above, rows)
	}
	whole := bytesOf(rowsText(rows[:3], 8))
	short := len(whole)
	whole = append(whole, 0xff, 0xff)
	kept := bytes.Clone(whole)
	if _, err := Decode(whole[:short], 8, 3+8); err == api.OK || !bytes.Equal(whole, kept) {
		t.Error(err, whole)
	}
	data := []byte{0, 0x10, 0x01}
	if _, err := Decode(data[:2], 8, 1); err != api.ErrCode || !bytes.Equal(data, []byte{0, 0x10, 0x01}) {
		t.Error(err, data)
	}
}

// Rule 3: what comes of a call is its caller's alone: no list of it lies behind
// another one, nor does any call keep it.
func TestResultsAreTheCallersOwn(t *testing.T) {
	rows := [][]int{{2, 4, 7}, {2, 4, 7}, {1}, nil, {0, 3}, {0, 3}}
	want := bytesOf(pageText(rows, 8))
	for range 3 {
		b, err := Encode(rows, 8)
		if !bytes.Equal(b, want) || err != api.OK {
			t.Fatal(b, err)
		}
		got, err := Decode(b, 8, len(rows))
		clear(b[:cap(b)])
		if !isPage(got, rows) || err != api.OK {
			t.Fatal(got, err)
		}
		for i := range got {
			whole := got[i][:cap(got[i])]
			for k := range whole {
				whole[k] = 1000
			}
			if !isPage(got[i+1:], rows[i+1:]) {
				t.Error(i, got)
			}
		}
	}
	if !isPage(rows, [][]int{{2, 4, 7}, {2, 4, 7}, {1}, nil, {0, 3}, {0, 3}}) {
		t.Error(rows)
	}
}

// P1: much to read, or to write, ends soon.
func TestLongPages(t *testing.T) {
	white := bytes.Repeat([]byte{0xff}, 1<<17)
	if rows, err := Decode(white, 32768, math.MaxInt); len(rows) != 0 || err != api.ErrCut {
		t.Error(len(rows), err)
	}
	if rows, err := Decode(white, 32768, 1<<20); !isPage(rows, make([][]int, 1<<20)) || err != api.OK {
		t.Error(len(rows), err)
	}
	if rows, err := Decode(make([]byte, 1<<20), 8, math.MaxInt); len(rows) != 0 || err != api.ErrCode {
		t.Error(len(rows), err)
	}
	var full []int
	for x := range 32768 {
		full = append(full, x)
	}
	for _, page := range [][][]int{slices.Repeat([][]int{full, full[:1]}, 20), slices.Repeat([][]int{full}, 40)} {
		b, err := Encode(page, 32768)
		if err != api.OK {
			t.Fatal(err)
		}
		if rows, err := Decode(b, 32768, len(page)); !isPage(rows, page) || err != api.OK {
			t.Error(err)
		}
	}
	page := slices.Repeat([][]int{{0}, {}}, 20000)
	b, err := Encode(page, 1)
	if err != api.OK {
		t.Fatal(err)
	}
	if rows, err := Decode(b, 1, len(page)); !isPage(rows, page) || err != api.OK {
		t.Error(err)
	}
}

// P1: whatever comes, the calls end, and they answer by the chapter's words.
func FuzzEveryCallEnds(f *testing.F) {
	f.Add([]byte{0x80, 0x08, 0, 0x80}, 8, 1)
	f.Add([]byte{0x2f, 0xa8, 0, 0x80, 0x08}, 8, 2)
	f.Add([]byte{0x12, 0x34, 0x56, 0x78}, 20, 3)
	f.Add([]byte{}, 40000, math.MaxInt)
	f.Fuzz(func(t *testing.T, data []byte, width, n int) {
		data = data[:min(len(data), 100)]
		if width < 1 || width > 32768 {
			isWrong(t, nil, width)
		} else {
			checkPage(t, mixedPage(width, int(uint(n)%5), uint32(n)), width)
		}
		if n >= 0 && 1 <= width && width <= 32768 {
			checkDecode(t, data, width, n)
		} else if rows, err := Decode(data, width, n); len(rows) != 0 || err != api.ErrArg {
			t.Fatal(width, n, rows, err)
		}
	})
}
