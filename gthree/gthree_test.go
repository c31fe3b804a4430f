package gthree

import (
	"bytes"
	"math"
	"slices"
	"strings"
	"testing"

	"mezzotint/api"
	"mezzotint/bits"
	"mezzotint/faxcode"
	"mezzotint/mh"
)

// The tests' own model goes by texts of 0 and 1. Single rows are layer 14's.

// The end of a line, and the two bits that may follow it.
const (
	eol       = "000000000001"
	byLengths = "1"
	byAbove   = "0"
)

var codes = faxcode.New()

// rowText is the bits of a row in one-dimensional coding.
func rowText(row []int, width int) string {
	w := bits.NewWriter(false)
	mh.WriteRow(w, codes, row, width)
	return textOf(w.Bytes())[:w.Len()]
}

// againstText is the bits of a row in two-dimensional coding.
func againstText(row, above []int, width int) string {
	w := bits.NewWriter(false)
	mh.WriteAgainst(w, codes, row, above, width)
	return textOf(w.Bytes())[:w.Len()]
}

// aligned is how long a text becomes by the fewest bits 0 behind which an end
// of a line ends at a byte boundary, and it.
func aligned(text *strings.Builder) {
	for (text.Len()+12)%8 != 0 {
		text.WriteByte('0')
	}
}

// pageText is the bits that Encode must answer, by the chapter's words.
func pageText(rows [][]int, width int, o Options) string {
	var text strings.Builder
	for i, row := range rows {
		if o.Aligned {
			aligned(&text)
		}
		text.WriteString(eol)
		if !o.Two {
			text.WriteString(rowText(row, width))
		} else if i%o.Every == 0 {
			text.WriteString(byLengths + rowText(row, width))
		} else {
			text.WriteString(byAbove + againstText(row, rows[i-1], width))
		}
	}
	if o.End {
		if o.Aligned {
			aligned(&text)
		}
		if o.Two {
			text.WriteString(strings.Repeat(eol+byLengths, 6))
		} else {
			text.WriteString(strings.Repeat(eol, 6))
		}
	}
	return text.String()
}

// rowsOf is what Decode must answer, by the chapter's words.
func rowsOf(text string, width, n int, two bool) ([][]int, api.Errno) {
	var rows [][]int
	var above []int
	for range n {
		one := strings.IndexByte(text, '1')
		if one < 0 {
			return nil, api.ErrCut
		}
		if one < 11 {
			return nil, api.ErrForm
		}
		text = text[one+1:]
		way := byLengths
		if two {
			if text == "" {
				return nil, api.ErrCut
			}
			way, text = text[:1], text[1:]
		}
		r := readerOf(text)
		var row []int
		var err api.Errno
		if way == byLengths {
			row, err = mh.ReadRow(r, codes, width)
		} else {
			row, err = mh.ReadAgainst(r, codes, above, width)
		}
		if err != api.OK {
			return nil, err
		}
		text = text[len(text)-r.Left():]
		rows, above = append(rows, row), row
	}
	return rows, api.OK
}

// bytesOf is the bytes that have the bits of a text; the last one is filled up.
func bytesOf(text string) []byte {
	w := bits.NewWriter(false)
	w.Word(text)
	return w.Bytes()
}

// readerOf is a reader that has exactly the bits of a text left.
func readerOf(text string) *bits.Reader {
	before := (8 - len(text)%8) % 8
	r := bits.NewReader(bytesOf("10110101"[:before]+text), false)
	r.Read(before)
	return r
}

// textOf is the bits of bytes.
func textOf(b []byte) string {
	var text strings.Builder
	for _, c := range b {
		for i := range 8 {
			text.WriteByte('0' + c<<i>>7)
		}
	}
	return text.String()
}

// plain is a text without blanks.
func plain(text string) string { return strings.ReplaceAll(text, " ", "") }

// eachText goes through all texts of 0 and 1 up to a length.
func eachText(most int, visit func(string)) {
	var grow func(string)
	grow = func(text string) {
		visit(text)
		if len(text) < most {
			grow(text + "0")
			grow(text + "1")
		}
	}
	grow("")
}

// allRows is the changes of all rows of a width.
func allRows(width int) [][]int {
	var rows [][]int
	for n := range 1 << width {
		var changes []int
		for x := range width {
			if n>>x&1 == 1 {
				changes = append(changes, x)
			}
		}
		rows = append(rows, changes)
	}
	return rows
}

// eachPage goes through all pages of some rows, up to a number of them.
func eachPage(list [][]int, most int, visit func([][]int)) {
	var grow func([][]int)
	grow = func(rows [][]int) {
		visit(rows)
		if len(rows) == most {
			return
		}
		for _, row := range list {
			grow(append(slices.Clip(rows), row))
		}
	}
	grow(nil)
}

// mixed is n numbers below a bound that follow no simple pattern, the same for
// the same seed.
func mixed(n int, seed uint32, bound int) []int {
	numbers := make([]int, n)
	for i := range numbers {
		seed = seed*1664525 + 1013904223
		numbers[i] = int(seed>>8) % bound
	}
	return numbers
}

// mixedPage is a page whose rows change at some places, most of them near those
// of the row above.
func mixedPage(width, count int, seed uint32) [][]int {
	var rows [][]int
	places := mixed(1+int(seed%9), seed, width)
	for y := range count {
		by := mixed(len(places), seed+uint32(y)*77, 9)
		for i := range places {
			if by[i] == 0 {
				places[i] = (places[i] + 7*y) % width
			} else {
				places[i] = min(max(places[i]+by[i]-5, 0), width-1)
			}
		}
		row := slices.Clone(places)
		slices.Sort(row)
		rows = append(rows, slices.Compact(row))
	}
	return rows
}

// allOptions is all options with some numbers for Every, and with numbers that
// don't matter without Two.
func allOptions() []Options {
	var list []Options
	for _, isAligned := range []bool{false, true} {
		for _, end := range []bool{false, true} {
			for _, every := range []int{1, 2, 3, math.MaxInt} {
				list = append(list, Options{Two: true, Every: every, Aligned: isAligned, End: end})
			}
			for _, every := range []int{math.MinInt, 0, 2} {
				list = append(list, Options{Every: every, Aligned: isAligned, End: end})
			}
		}
	}
	return list
}

// isPage tells whether rows are others.
func isPage(rows, others [][]int) bool {
	return slices.EqualFunc(rows, others, func(a, b []int) bool { return slices.Equal(a, b) })
}

// checkPage holds Encode against the chapter's words, and whether Decode reads
// the rows back, all of them or the first ones.
func checkPage(t *testing.T, rows [][]int, width int, o Options) {
	t.Helper()
	want := bytesOf(pageText(rows, width, o))
	b, err := Encode(rows, width, o)
	if !bytes.Equal(b, want) || err != api.OK {
		t.Fatalf("Encode(%v, %d, %+v): %x, error %d; want %x", rows, width, o, b, err, want)
	}
	for n := range len(rows) + 1 {
		if got, err := Decode(b, width, n, o.Two); !isPage(got, rows[:n]) || err != api.OK {
			t.Fatalf("Decode(%x, %d, %d, %t): %v, error %d; want %v", b, width, n, o.Two, got, err, rows[:n])
		}
	}
	if !o.End {
		for _, n := range []int{len(rows) + 1, math.MaxInt} {
			if got, err := Decode(b, width, n, o.Two); len(got) != 0 || err != api.ErrCut {
				t.Fatalf("Decode(%x, %d, %d, %t): %v, error %d; want ErrCut", b, width, n, o.Two, got, err)
			}
		}
	}
}

// checkDecode holds Decode against the chapter's words for any bytes.
func checkDecode(t *testing.T, b []byte, width, n int, two bool) {
	t.Helper()
	want, wantErr := rowsOf(textOf(b), width, n, two)
	if rows, err := Decode(b, width, n, two); !isPage(rows, want) || err != wantErr {
		t.Fatalf("Decode(%x, %d, %d, %t): %v, error %d; want %v, error %d", b, width, n, two, rows, err, want, wantErr)
	}
}

// P15.1
func TestRight(t *testing.T) {
	for _, every := range []int{math.MinInt, -2, -1, 0, 1, 2, 4, math.MaxInt} {
		for _, isAligned := range []bool{false, true} {
			for _, end := range []bool{false, true} {
				if !Right(Options{Every: every, Aligned: isAligned, End: end}) {
					t.Error(every, isAligned, end)
				}
				if Right(Options{Two: true, Every: every, Aligned: isAligned, End: end}) != (every >= 1) {
					t.Error(every, isAligned, end)
				}
			}
		}
	}
}

// P15.1: the chapter's example, and others worked out by hand.
func TestKnownPages(t *testing.T) {
	const six = "000000000001 000000000001 000000000001 000000000001 000000000001 000000000001"
	const sixOnes = "0000000000011 0000000000011 0000000000011 0000000000011 0000000000011 0000000000011"
	for _, x := range []struct {
		rows  [][]int
		width int
		o     Options
		text  string
	}{
		{[][]int{{}}, 8, Options{}, "000000000001 10011"},
		{[][]int{{}}, 8, Options{Every: -3}, "000000000001 10011"},
		{[][]int{{2, 4, 7}, {0}}, 8, Options{}, "000000000001 0111 11 1000 010 000000000001 00110101 000101"},
		{[][]int{{}}, 8, Options{Aligned: true}, "0000 000000000001 10011"},
		{[][]int{{}, {}}, 8, Options{Aligned: true}, "0000 000000000001 10011 0000000 000000000001 10011"},
		{[][]int{{}, {}}, 2, Options{Aligned: true}, "0000 000000000001 0111 000000000001 0111"},
		{[][]int{{}, {}}, 10, Options{Aligned: true}, "0000 000000000001 00111 0000000 000000000001 00111"},
		{[][]int{{0}, {0}}, 8, Options{Aligned: true}, "0000 000000000001 00110101 000101 000000 000000000001 00110101 000101"},
		{nil, 8, Options{}, ""},
		{nil, 8, Options{Two: true, Every: 1, Aligned: true}, ""},
		{nil, 8, Options{End: true}, six},
		{nil, 8, Options{Two: true, Every: 1, End: true}, sixOnes},
		{nil, 8, Options{Aligned: true, End: true}, "0000" + six},
		{nil, 8, Options{Two: true, Every: 9, Aligned: true, End: true}, "0000" + sixOnes},
		{[][]int{{}}, 8, Options{End: true}, "000000000001 10011" + six},
		{[][]int{{}}, 8, Options{Aligned: true, End: true}, "0000 000000000001 10011 0000000" + six},
		{[][]int{{}}, 8, Options{Two: true, Every: 1}, "000000000001 1 10011"},
		{[][]int{{}, {}, {}}, 8, Options{Two: true, Every: 1}, "000000000001 1 10011 000000000001 1 10011 000000000001 1 10011"},
		{[][]int{{}, {}, {}}, 8, Options{Two: true, Every: 2}, "000000000001 1 10011 000000000001 0 1 000000000001 1 10011"},
		{[][]int{{}, {}, {}}, 8, Options{Two: true, Every: 3}, "000000000001 1 10011 000000000001 0 1 000000000001 0 1"},
		{[][]int{{}, {}, {}}, 8, Options{Two: true, Every: 2, Aligned: true}, "0000 000000000001 1 10011 000000 000000000001 0 1 00 000000000001 1 10011"},
		{[][]int{{2, 4, 7}, {2, 5, 7}, {2}}, 8, Options{Two: true, Every: 4}, "000000000001 1 0111 11 1000 010 000000000001 0 1 011 1 1 000000000001 0 1 0001 1"},
		{[][]int{{3}, {}, {4}, {4}}, 8, Options{Two: true, Every: 2, End: true}, "000000000001 1 1000 0011 000000000001 0 001 10011 0000110111 000000000001 1 1011 011 000000000001 0 1 1" + sixOnes},
		{[][]int{{0}}, 2, Options{Two: true, Every: 2, Aligned: true, End: true}, "0000 000000000001 1 00110101 11 0" + sixOnes},
	} {
		text := plain(x.text)
		want := bytesOf(text)
		if b, err := Encode(x.rows, x.width, x.o); !bytes.Equal(b, want) || err != api.OK {
			t.Errorf("Encode(%v, %d, %+v): %x, error %d; want %x", x.rows, x.width, x.o, b, err, want)
		}
		if rows, err := Decode(want, x.width, len(x.rows), x.o.Two); !isPage(rows, x.rows) || err != api.OK {
			t.Errorf("Decode(%x, %d, %d, %t): %v, error %d; want %v", want, x.width, len(x.rows), x.o.Two, rows, err, x.rows)
		}
		if got := pageText(x.rows, x.width, x.o); got != text {
			t.Errorf("the test's own model of %v, %d, %+v is %s; want %s", x.rows, x.width, x.o, got, x.text)
		}
	}
}

// P15.1, P15.3: all pages of the first widths up to a number of rows, with all
// options.
func TestShortPagesAreReadBack(t *testing.T) {
	for _, o := range allOptions() {
		for width, count := range []int{0, 4, 3, 2, 2} {
			if width == 0 {
				continue
			}
			eachPage(allRows(width), count, func(rows [][]int) { checkPage(t, rows, width, o) })
		}
	}
}

// P15.1, P15.3: others, up to the greatest width.
func TestPagesAreReadBack(t *testing.T) {
	list := allOptions()
	for seed := range uint32(400) {
		width := 1 + mixed(1, seed, 300)[0]
		checkPage(t, mixedPage(width, int(seed%14), seed), width, list[int(seed)%len(list)])
	}
	for _, o := range list {
		for _, width := range []int{1, 8, 64, 1728, 2560, 32768} {
			checkPage(t, [][]int{{0}, nil, {width - 1}, {width / 2}, nil, {0}}, width, o)
		}
	}
}

// P15.2: however many bits 0 there are ahead of the bit 1, eleven at least;
// those of the row before don't count.
func TestEndsOfLines(t *testing.T) {
	for zeros := range 100 {
		want := api.OK
		if zeros < 11 {
			want = api.ErrForm
		}
		lead := strings.Repeat("0", zeros) + "1"
		for _, x := range []struct {
			text string
			rows [][]int
			two  bool
		}{
			{lead + "1000", [][]int{nil}, false},
			{lead + "1" + "1000", [][]int{nil}, true},
			{lead + "0" + "1", [][]int{nil}, true},
			{eol + "1000" + lead + "1000", [][]int{nil, nil}, false},
			{eol + "1" + "1000" + lead + "0" + "1", [][]int{nil, nil}, true},
			{eol + "1" + "0111010" + lead + "0" + "1" + "1", [][]int{{2}, {2}}, true},
			{eol + "0" + "1" + lead + "1" + "1000", [][]int{nil, nil}, true},
			{eol + "000111" + "11" + lead + "1000", [][]int{{1}, nil}, false},
		} {
			rows, err := Decode(bytesOf(x.text), 3, len(x.rows), x.two)
			if err != want || err == api.OK && !isPage(rows, x.rows) || err != api.OK && len(rows) != 0 {
				t.Errorf("%s, %t: %v, error %d; want %v, error %d", x.text, x.two, rows, err, x.rows, want)
			}
		}
	}
}

// P15.2: what comes of bits, worked out by hand; the first row with an error
// decides.
func TestKnownReadings(t *testing.T) {
	for _, x := range []struct {
		text  string
		width int
		n     int
		two   bool
		rows  [][]int
		err   api.Errno
	}{
		// none of the rows
		{"", 8, 0, false, nil, api.OK},
		{"", 8, 0, true, nil, api.OK},
		{"11111111", 8, 0, true, nil, api.OK},
		// no bit 1, or too soon
		{"", 8, 1, false, nil, api.ErrCut},
		{"00000000", 8, 1, true, nil, api.ErrCut},
		{"00000000 00000000 00000000", 8, 1, false, nil, api.ErrCut},
		{"10000000 00000000", 8, 1, false, nil, api.ErrForm},
		{"00000000 001 10011", 8, 1, false, nil, api.ErrForm},
		{"00000000 00110011", 8, 1, true, nil, api.ErrForm},
		{"00000000 00100000", 8, 1, true, nil, api.ErrForm},
		{eol + "10011", 8, 2, false, nil, api.ErrCut},
		{eol + "10011" + "00000000001", 8, 2, false, nil, api.ErrForm},
		{eol + "10011" + "10011", 8, 2, false, nil, api.ErrForm},
		// no bit that tells the way: the end of the line ends the last byte
		{"0000" + eol, 8, 1, true, nil, api.ErrCut},
		{"0000" + eol, 8, 1, false, nil, api.ErrCut},
		{eol + "1" + "10011" + "000000" + eol, 8, 2, true, nil, api.ErrCut},
		{eol + "1" + "10011" + "000000" + eol, 8, 1, true, [][]int{nil}, api.OK},
		// the first row, below a white one
		{eol + "0" + "1", 8, 1, true, [][]int{nil}, api.OK},
		{eol + "0" + "000010" + "1", 8, 1, true, [][]int{{6}}, api.OK},
		{eol + "0" + "0001", 8, 1, true, [][]int{nil}, api.OK},
		{eol + "0" + "001" + "0111" + "11" + "1", 8, 1, true, [][]int{{2, 4}}, api.OK},
		{eol + "0" + "001" + "0111" + "11" + "1" + eol + "0" + "1" + "011" + "1", 8, 2, true, [][]int{{2, 4}, {2, 5}}, api.OK},
		{eol + "0" + "011", 8, 1, true, nil, api.ErrForm},
		// each row is below the one ahead of it, however that was coded
		{eol + "1" + "0111" + "0010" + eol + "0" + "1" + "1" + eol + "0" + "011" + "1", 8, 3, true, [][]int{{2}, {2}, {3}}, api.OK},
		{eol + "0" + "010" + "1" + eol + "1" + "10011" + eol + "0" + "010" + "1", 8, 3, true, [][]int{{7}, nil, {7}}, api.OK},
		{eol + "0" + "010" + "1" + eol + "0" + "010" + "1" + eol + "0" + "010" + "1", 8, 3, true, [][]int{{7}, {6}, {5}}, api.OK},
		// the bit belongs to the row without two, and the row to the way of the bit
		{eol + "1" + "10011", 8, 1, false, nil, api.ErrCut},
		{eol + "1" + "0011", 8, 1, false, [][]int{nil}, api.OK},
		{eol + "0" + "0111" + "11", 12, 1, false, [][]int{{10}}, api.OK},
		{eol + "10011", 8, 1, true, nil, api.ErrLong},
		{eol + "0" + "0111" + "11", 12, 1, true, nil, api.ErrForm},
		// layer 14's errors
		{eol + "10100", 8, 1, false, nil, api.ErrLong},
		{eol + "1" + "10100", 8, 1, true, nil, api.ErrLong},
		{eol + "0" + "001" + "10100", 8, 1, true, nil, api.ErrLong},
		{eol + "00000000", 8, 1, false, nil, api.ErrCode},
		{eol + "1" + "00000000", 8, 1, true, nil, api.ErrCode},
		{eol + "0" + "0000000", 8, 1, true, nil, api.ErrCode},
		{eol + "0" + "0000001", 8, 1, true, nil, api.ErrSupport},
		{eol + eol, 8, 1, false, nil, api.ErrCode},
		{eol + "1000", 8, 1, false, nil, api.ErrCut},
		{eol + "1000" + "0011", 8, 1, false, [][]int{{3}}, api.OK},
		{"0000" + eol + "1" + "1000", 8, 1, true, nil, api.ErrCut},
		{eol + "0" + "001", 8, 1, true, nil, api.ErrCut},
	} {
		b := bytesOf(plain(x.text))
		want, wantErr := rowsOf(textOf(b), x.width, x.n, x.two)
		if !isPage(want, x.rows) || wantErr != x.err {
			t.Errorf("the test's own model of %s, %d, %d, %t: %v, error %d; want %v, error %d", x.text, x.width, x.n, x.two, want, wantErr, x.rows, x.err)
		}
		if rows, err := Decode(b, x.width, x.n, x.two); !isPage(rows, x.rows) || err != x.err {
			t.Errorf("Decode(%s, %d, %d, %t): %v, error %d; want %v, error %d", x.text, x.width, x.n, x.two, rows, err, x.rows, x.err)
		}
	}
}

// P15.2: all texts behind an end of a line up to a length, and behind a row too;
// with noughts up to the end of the last byte.
func TestDecodeOfEveryShortText(t *testing.T) {
	eachText(11, func(text string) {
		for _, width := range []int{1, 3, 8} {
			checkDecode(t, bytesOf(eol+text), width, 1, false)
			checkDecode(t, bytesOf(eol+text), width, 1, true)
		}
		checkDecode(t, bytesOf(eol+"0"+"000010"+"1"+eol+text), 8, 2, true)
		checkDecode(t, bytesOf(eol+"1000"+text), 3, 2, false)
	})
}

// P15.2: all data of two bytes that begin with enough bits 0, or nearly so, and
// some others, with bytes ahead of them or behind.
func TestDecodeOfShortData(t *testing.T) {
	for n := range 1 << 16 {
		b := []byte{byte(n >> 8), byte(n)}
		if n < 1<<9 || n%31 == 0 {
			checkDecode(t, b, 8, 1, n%2 == 0)
			checkDecode(t, append(b, 0x10, 1, 0xff), 1, 1, n%2 == 0)
		}
		if n < 1<<12 || n%31 == 0 {
			checkDecode(t, append([]byte{0}, b...), 2, 2, n%2 == 0)
		}
	}
}

// P15.2: a page that is cut at any byte, or changed at any bit.
func TestPagesThatAreDamaged(t *testing.T) {
	for i, o := range allOptions() {
		rows := mixedPage(60, 4, uint32(i))
		b, _ := Encode(rows, 60, o)
		for k := range len(b) {
			for _, two := range []bool{false, true} {
				checkDecode(t, b[:k], 60, 4, two)
			}
		}
		for k := range 8 * len(b) {
			other := bytes.Clone(b)
			other[k/8] ^= 0x80 >> (k % 8)
			checkDecode(t, other, 60, 4, o.Two)
		}
	}
}

// P15.2: what follows the last row doesn't matter.
func TestWhatFollowsTheLastRow(t *testing.T) {
	for i, o := range allOptions() {
		rows := mixedPage(60, 4, uint32(i))
		text := pageText(rows, 60, o)
		for _, rest := range []string{"", "0", "1", "11111111", "0000000", "00000000 00000000", "0000001 1", eol + "1", eol + eol, "10110101 10110101"} {
			b := bytesOf(text + plain(rest))
			if got, err := Decode(b, 60, 4, o.Two); !isPage(got, rows) || err != api.OK {
				t.Errorf("%+v, %s: %v, error %d", o, rest, got, err)
			}
		}
	}
}

// wrongWidths are those that no row has.
var wrongWidths = []int{math.MinInt, math.MinInt32, -32768, -8, -1, 0, 32769, 32776, 65536, 65544, 1 << 31, 1 << 32, 1<<32 + 8, math.MaxInt - 1, math.MaxInt}

// wrongRows are changes that aren't valid for the width 8.
var wrongRows = [][]int{{-1}, {8}, {9}, {math.MinInt}, {math.MaxInt}, {3, 3}, {3, 2}, {0, 0}, {-1, 2}, {2, 8}, {1, 2, 2}, {1, 3, 2, 4}, {0, 1, 2, 3, 4, 5, 6, 7, 8}}

// isWrong asks whether Encode has ErrArg, and answers nothing beside it.
func isWrong(t *testing.T, rows [][]int, width int, o Options) {
	t.Helper()
	if b, err := Encode(rows, width, o); len(b) != 0 || err != api.ErrArg {
		t.Errorf("Encode(%v, %d, %+v): %x, error %d", rows, width, o, b, err)
	}
}

// P15.1: ErrArg for options that aren't valid.
func TestWrongOptions(t *testing.T) {
	for _, every := range []int{math.MinInt, -2, -1, 0} {
		for _, isAligned := range []bool{false, true} {
			for _, end := range []bool{false, true} {
				o := Options{Two: true, Every: every, Aligned: isAligned, End: end}
				for _, rows := range [][][]int{nil, {nil}, {{2, 4, 7}, {2}}, {{9}}} {
					isWrong(t, rows, 8, o)
					isWrong(t, rows, 0, o)
				}
			}
		}
	}
}

// P15.1, P15.2: ErrArg for a width that no row has, ahead of what the bits are.
func TestWrongWidths(t *testing.T) {
	for _, width := range wrongWidths {
		for _, o := range allOptions() {
			for _, rows := range [][][]int{nil, {}, {nil}, {{0}}, {{2, 4, 7}, nil}, {{-1}}} {
				isWrong(t, rows, width, o)
			}
		}
		for _, n := range []int{math.MinInt, -1, 0, 1, 2, math.MaxInt} {
			for _, b := range [][]byte{nil, {0xff}, {0, 0}, {0, 0x19, 0x80}} {
				for _, two := range []bool{false, true} {
					if rows, err := Decode(b, width, n, two); len(rows) != 0 || err != api.ErrArg {
						t.Errorf("Decode(%x, %d, %d, %t): %v, error %d", b, width, n, two, rows, err)
					}
				}
			}
		}
	}
	for _, width := range []int{1, 32768} {
		if rows, err := Decode([]byte{0, 1}, width, 0, true); len(rows) != 0 || err != api.OK {
			t.Error(width, rows, err)
		}
	}
}

// P15.1: ErrArg for changes that aren't valid, in whichever row, and however it
// is coded.
func TestWrongRows(t *testing.T) {
	for _, o := range allOptions() {
		for _, row := range wrongRows {
			for _, rows := range [][][]int{{row}, {nil, row}, {row, nil}, {nil, nil, row}, {{2, 4, 7}, {0}, row, row}, {nil, nil, nil, nil, row, {2}}} {
				isWrong(t, rows, 8, o)
			}
		}
	}
}

// P15.2: ErrArg if there are to be fewer than no rows, ahead of what the bits are.
func TestFewerThanNoRows(t *testing.T) {
	for _, n := range []int{math.MinInt, math.MinInt32, -2, -1} {
		for _, b := range [][]byte{nil, {0xff}, {0, 0}, {0, 0x19, 0x80}} {
			for _, two := range []bool{false, true} {
				if rows, err := Decode(b, 8, n, two); len(rows) != 0 || err != api.ErrArg {
					t.Errorf("Decode(%x, 8, %d, %t): %v, error %d", b, n, two, rows, err)
				}
			}
		}
	}
}

// Rule 3: nothing that is handed in is changed, not even behind its end.
func TestArgumentsStayAsTheyAre(t *testing.T) {
	for _, o := range allOptions() {
		full := []int{2, 4, 7, 1, 1}
		above := []int{0, 5, 99}
		rows := [][]int{full[:3], above[:2], full[:2], {50}}
		want := pageText(rows[:3], 8, o)
		b, _ := Encode(rows[:3], 8, o)
		if !bytes.Equal(b, bytesOf(want)) || !slices.Equal(full, []int{2, 4, 7, 1, 1}) || !slices.Equal(above, []int{0, 5, 99}) || !isPage(rows, [][]int{{2, 4, 7}, {0, 5}, {2, 4}, {50}}) {
			t.Error(o, b, full, above, rows)
		}
		whole := append(bytes.Clone(b), 0xff, 0xff)
		kept := bytes.Clone(whole)
		if _, err := Decode(whole[:len(b)], 8, 4, o.Two); err == api.OK || !bytes.Equal(whole, kept) {
			t.Error(o, err, whole)
		}
	}
}

// Rule 3: what comes of a call is its caller's alone: no list of it lies behind
// another one, nor does any call keep it.
func TestResultsAreTheCallersOwn(t *testing.T) {
	rows := [][]int{{2, 4, 7}, {2, 4, 7}, {1}, nil, {0, 3}, {0, 3}}
	for _, o := range allOptions() {
		b, _ := Encode(rows, 8, o)
		for range 2 {
			got, err := Decode(bytesOf(pageText(rows, 8, o)), 8, len(rows), o.Two)
			if !isPage(got, rows) || err != api.OK {
				t.Fatal(o, got, err)
			}
			for i := range got {
				whole := got[i][:cap(got[i])]
				for k := range whole {
					whole[k] = 1000
				}
				if !isPage(got[i+1:], rows[i+1:]) {
					t.Error(o, i, got)
				}
			}
			clear(b[:cap(b)])
			if b, err = Encode(rows, 8, o); !bytes.Equal(b, bytesOf(pageText(rows, 8, o))) || err != api.OK {
				t.Error(o, b, err)
			}
		}
	}
}

// P1: much to read, or to write, ends soon.
func TestLongPages(t *testing.T) {
	fills := make([]byte, 1<<20)
	for _, n := range []int{1, math.MaxInt} {
		if rows, err := Decode(fills, 8, n, true); len(rows) != 0 || err != api.ErrCut {
			t.Error(len(rows), err)
		}
	}
	copy(fills[1<<20-2:], []byte{0x19, 0x80})
	if rows, err := Decode(fills, 8, 1, false); !isPage(rows, [][]int{nil}) || err != api.OK {
		t.Error(len(rows), err)
	}
	var full []int
	for x := range 32768 {
		full = append(full, x)
	}
	for _, o := range []Options{{}, {Two: true, Every: 4, Aligned: true, End: true}, {Two: true, Every: math.MaxInt}} {
		page := slices.Repeat([][]int{full, full[:1]}, 20)
		b, err := Encode(page, 32768, o)
		if err != api.OK {
			t.Fatal(o, err)
		}
		if rows, err := Decode(b, 32768, len(page), o.Two); !isPage(rows, page) || err != api.OK {
			t.Error(o, err)
		}
		page = slices.Repeat([][]int{{0}}, 20000)
		b, err = Encode(page, 1, o)
		if err != api.OK {
			t.Fatal(o, err)
		}
		if rows, err := Decode(b, 1, len(page), o.Two); !isPage(rows, page) || err != api.OK {
			t.Error(o, err)
		}
	}
}

// P1: whatever comes, the calls end, and they answer by the chapter's words.
func FuzzEveryCallEnds(f *testing.F) {
	f.Add([]byte{0, 0x10, 0x98}, 8, 1, 0, 1)
	f.Add([]byte{0, 0x1c, 0xc0, 0, 0x80}, 8, 2, 1, 2)
	f.Add([]byte{0, 0x14, 0, 0x28, 0, 0x14, 0x80}, 20, 3, 7, 3)
	f.Add([]byte{}, 40000, math.MaxInt, 3, 0)
	f.Fuzz(func(t *testing.T, data []byte, width, n, flags, every int) {
		o := Options{Two: flags&1 != 0, Every: every, Aligned: flags&2 != 0, End: flags&4 != 0}
		if Right(o) != (every >= 1 || !o.Two) {
			t.Fatal(o)
		}
		data = data[:min(len(data), 100)]
		if width < 1 || width > 32768 {
			isWrong(t, nil, width, o)
		} else if !Right(o) {
			isWrong(t, mixedPage(width, 3, uint32(n)), width, o)
		} else {
			checkPage(t, mixedPage(width, int(uint(n)%5), uint32(flags)), width, o)
		}
		if n >= 0 && 1 <= width && width <= 32768 {
			checkDecode(t, data, width, n, o.Two)
		} else if rows, err := Decode(data, width, n, o.Two); len(rows) != 0 || err != api.ErrArg {
			t.Fatal(width, n, rows, err)
		}
	})
}
