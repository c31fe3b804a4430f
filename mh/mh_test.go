package mh

import (
	"math"
	"slices"
	"strings"
	"testing"

	"mezzotint/api"
	"mezzotint/bits"
	"mezzotint/faxcode"
)

// The tests' own model goes by texts of 0 and 1, and by pixels, as numbers: 0
// for white, 1 for black.

var orders = []bool{false, true}

// The code words of modes, by the chapter's names.
const (
	left3, left2, left1    = "0000010", "000010", "010"
	same                   = "1"
	right1, right2, right3 = "011", "000011", "0000011"
	two, pass, beyond      = "001", "0001", "0000001"
)

// steps is the modes from -3 to 3, by their code words.
var steps = map[string]int{left3: -3, left2: -2, left1: -1, same: 0, right1: 1, right2: 2, right3: 3}

// lengthWords is the code words of run lengths, white ones and black ones.
var lengthWords = [2]map[int]string{wordsOf(false), wordsOf(true)}

// meanings is the other way round, and for modes 1 each; a text with which one
// of the words begins, and which is none, has -1.
var (
	lengthMeanings = [2]map[string]int{meaningsOf(lengthWords[0]), meaningsOf(lengthWords[1])}
	modeMeanings   = meaningsOf(map[int]string{0: left3, 1: left2, 2: left1, 3: same, 4: right1, 5: right2, 6: right3, 7: two, 8: pass, 9: beyond})
)

func wordsOf(isBlack bool) map[int]string {
	words, lengths := faxcode.Words(isBlack)
	table := map[int]string{}
	for i, n := range lengths {
		table[n] = words[i]
	}
	return table
}

func meaningsOf(words map[int]string) map[string]int {
	table := map[string]int{}
	for n, word := range words {
		table[word] = n
		for k := 1; k < len(word); k++ {
			table[word[:k]] = -1
		}
	}
	return table
}

// lengthOf is the code words of a run length, by layer 13's words.
func lengthOf(n, colour int) string {
	text := ""
	for ; n >= 2560; n -= 2560 {
		text += lengthWords[colour][2560]
	}
	if n >= 64 {
		text += lengthWords[colour][n/64*64]
	}
	return text + lengthWords[colour][n%64]
}

// parse is a text of which some is read.
type parse struct {
	text string
	read int
}

// word reads one of some words, by layer 6's words.
func (p *parse) word(meanings map[string]int) (string, api.Errno) {
	for k := p.read + 1; k <= len(p.text); k++ {
		word := p.text[p.read:k]
		n, begins := meanings[word]
		if !begins {
			p.read = k
			return "", api.ErrCode
		}
		if n >= 0 {
			p.read = k
			return word, api.OK
		}
	}
	p.read = len(p.text)
	return "", api.ErrCut
}

// length reads a run length, by layer 13's words.
func (p *parse) length(most, colour int) (int, api.Errno) {
	sum := 0
	for {
		word, err := p.word(lengthMeanings[colour])
		if err != api.OK {
			return 0, err
		}
		n := lengthMeanings[colour][word]
		sum += n
		if sum > most {
			return 0, api.ErrLong
		}
		if n < 64 {
			return sum, api.OK
		}
	}
}

// turns is how often a row changes its colour at each place, the width among them.
type turns []int

// changes is the places at which the colour differs in the end.
func (n turns) changes() []int {
	var list []int
	for x, times := range n[:len(n)-1] {
		if times%2 == 1 {
			list = append(list, x)
		}
	}
	return list
}

// rowOf is what ReadRow must answer, by the chapter's words: the row, how many
// bits were read, and the error.
func rowOf(text string, width int) ([]int, int, api.Errno) {
	p, n := parse{text: text}, make(turns, width+1)
	sum, colour := 0, 0
	for sum < width {
		length, err := p.length(width-sum, colour)
		if err != api.OK {
			return nil, p.read, err
		}
		sum += length
		colour = 1 - colour
		n[sum]++
	}
	return n.changes(), p.read, api.OK
}

// pixelsOf is the pixels of a row.
func pixelsOf(changes []int, width int) []int {
	pixels := make([]int, width)
	ends := append(slices.Clone(changes), width)
	for i, x := range changes {
		for k := x; k < ends[i+1]; k++ {
			pixels[k] = 1 - i%2
		}
	}
	return pixels
}

// changesOf is the places at which pixels differ from the one before.
func changesOf(pixels []int) []int {
	var changes []int
	before := 0
	for x, pixel := range pixels {
		if pixel != before {
			changes = append(changes, x)
		}
		before = pixel
	}
	return changes
}

// changeTo is the first place behind another one at which pixels change to a
// colour, and the next one at which they change then; the end, if there is none.
func changeTo(pixels []int, at, colour int) (int, int) {
	x := nextChange(pixels, at+1)
	if x < len(pixels) && pixels[x] != colour {
		x = nextChange(pixels, x+1)
	}
	return x, nextChange(pixels, x+1)
}

// nextChange is the first place, from one on, at which pixels change.
func nextChange(pixels []int, x int) int {
	for ; x < len(pixels); x++ {
		before := 0
		if x > 0 {
			before = pixels[x-1]
		}
		if pixels[x] != before {
			return x
		}
	}
	return len(pixels)
}

// againstOf is what ReadAgainst must answer, by the chapter's words.
func againstOf(text string, above []int) ([]int, int, api.Errno) {
	width := len(above)
	p, n := parse{text: text}, make(turns, width+1)
	at, colour := -1, 0
	for at != width {
		word, err := p.word(modeMeanings)
		if err != api.OK {
			return nil, p.read, err
		}
		b1, b2 := changeTo(above, at, 1-colour)
		switch word {
		case beyond:
			return nil, p.read, api.ErrSupport
		case pass:
			at = b2
		case two:
			if at < 0 {
				at = 0
			}
			for _, c := range []int{colour, 1 - colour} {
				length, err := p.length(width-at, c)
				if err != api.OK {
					return nil, p.read, err
				}
				at += length
				n[at]++
			}
		default:
			x := b1 + steps[word]
			if x <= at || x < 0 || x > width {
				return nil, p.read, api.ErrForm
			}
			n[x]++
			at, colour = x, 1-colour
		}
	}
	return n.changes(), p.read, api.OK
}

// writeRowOf is the bits that WriteRow must append, by the chapter's words.
func writeRowOf(pixels []int) string {
	var text strings.Builder
	colour, length := 0, 0
	for _, pixel := range pixels {
		if pixel != colour {
			text.WriteString(lengthOf(length, colour))
			colour, length = pixel, 0
		}
		length++
	}
	return text.String() + lengthOf(length, colour)
}

// writeAgainstOf is the bits that WriteAgainst must append, by the chapter's words.
func writeAgainstOf(row, above []int) string {
	names := []string{left3, left2, left1, same, right1, right2, right3}
	var text strings.Builder
	at, colour := -1, 0
	for at != len(row) {
		a1, a2 := changeTo(row, at, 1-colour)
		b1, b2 := changeTo(above, at, 1-colour)
		if b2 < a1 {
			text.WriteString(pass)
			at = b2
		} else if a1-b1 <= 3 && b1-a1 <= 3 {
			text.WriteString(names[a1-b1+3])
			at, colour = a1, 1-colour
		} else {
			if at < 0 {
				at = 0
			}
			text.WriteString(two + lengthOf(a1-at, colour) + lengthOf(a2-a1, 1-colour))
			at = a2
		}
	}
	return text.String()
}

// bytesOf is the bytes that have the bits of a text; the last one is filled up.
func bytesOf(text string, low bool) []byte {
	w := bits.NewWriter(low)
	w.Word(text)
	return w.Bytes()
}

// readerOf is a reader that has exactly the bits of a text left.
func readerOf(text string, low bool) *bits.Reader {
	before := (8 - len(text)%8) % 8
	r := bits.NewReader(bytesOf("10110101"[:before]+text, low), low)
	r.Read(before)
	return r
}

// isText tells whether a writer has exactly the bits of a text.
func isText(w *bits.Writer, text string, low bool) bool {
	return w.Len() == len(text) && slices.Equal(w.Bytes(), bytesOf(text, low))
}

// plain is a text without blanks.
func plain(text string) string { return strings.ReplaceAll(text, " ", "") }

// eachText goes through all texts of 0 and 1 up to a length.
func eachText(most int, visit func(string)) {
	var grow func(string)
	grow = func(text string) {
		visit(text)
		if len(text) < most {
			grow(text + "0")
			grow(text + "1")
		}
	}
	grow("")
}

// eachRow goes through the pixels of all rows of a width.
func eachRow(width int, visit func([]int)) {
	for n := range 1 << width {
		pixels := make([]int, width)
		for x := range pixels {
			pixels[x] = n >> x & 1
		}
		visit(pixels)
	}
}

// mixed is n numbers below a bound that follow no simple pattern, the same for
// the same seed.
func mixed(n int, seed uint32, bound int) []int {
	numbers := make([]int, n)
	for i := range numbers {
		seed = seed*1664525 + 1013904223
		numbers[i] = int(seed>>8) % bound
	}
	return numbers
}

// mixedRow is the pixels of a row with runs up to a length.
func mixedRow(width int, seed uint32, longest int) []int {
	var pixels []int
	colour := int(seed>>3) % 2
	for _, n := range mixed(width, seed, longest) {
		for range n + 1 {
			pixels = append(pixels, colour)
		}
		colour = 1 - colour
		if len(pixels) >= width {
			break
		}
	}
	return pixels[:width]
}

// near is the pixels of a row whose changes lie near those of another one, some
// of which are left out, and some of which are new.
func near(pixels []int, seed uint32) []int {
	width := len(pixels)
	n := make(turns, width+1)
	by := mixed(width+1, seed, 40)
	for i, x := range changesOf(pixels) {
		switch by[i] {
		case 0, 1:
		case 2, 3, 4, 5, 6, 7, 8, 9, 10:
			n[min(max(x+by[i]-6, 0), width)]++
		case 11:
			n[x]++
			n[(x+by[i+1])%width]++
		default:
			n[x]++
		}
	}
	return pixelsOf(n.changes(), width)
}

// checkRow holds WriteRow and ReadRow against the chapter's words for a row:
// what is written, behind some bits, is read back, ahead of some bits.
func checkRow(t *testing.T, c *faxcode.Codes, pixels []int, low bool) {
	t.Helper()
	changes, width := changesOf(pixels), len(pixels)
	for _, before := range []string{"", "10110"} {
		w := bits.NewWriter(low)
		w.Word(before)
		text := writeRowOf(pixels)
		if err := WriteRow(w, c, changes, width); err != api.OK || !isText(w, before+text, low) {
			t.Fatalf("WriteRow(%v, %d), low %t: error %d, %d bits %x; want %s", changes, width, low, err, w.Len(), w.Bytes(), text)
		}
		r := readerOf(text+before, low)
		if got, err := ReadRow(r, c, width); !slices.Equal(got, changes) || err != api.OK || r.Left() != len(before) {
			t.Fatalf("ReadRow(%s, %d), low %t: %v, error %d, %d left; want %v", text, width, low, got, err, r.Left(), changes)
		}
	}
}

// checkAgainst does so with WriteAgainst and ReadAgainst.
func checkAgainst(t *testing.T, c *faxcode.Codes, row, above []int, low bool) {
	t.Helper()
	changes, up, width := changesOf(row), changesOf(above), len(row)
	for _, before := range []string{"", "10110"} {
		w := bits.NewWriter(low)
		w.Word(before)
		text := writeAgainstOf(row, above)
		if err := WriteAgainst(w, c, changes, up, width); err != api.OK || !isText(w, before+text, low) {
			t.Fatalf("WriteAgainst(%v, %v, %d), low %t: error %d, %d bits %x; want %s", changes, up, width, low, err, w.Len(), w.Bytes(), text)
		}
		r := readerOf(text+before, low)
		if got, err := ReadAgainst(r, c, up, width); !slices.Equal(got, changes) || err != api.OK || r.Left() != len(before) {
			t.Fatalf("ReadAgainst(%s, %v, %d), low %t: %v, error %d, %d left; want %v", text, up, width, low, got, err, r.Left(), changes)
		}
	}
}

// checkReadRow holds ReadRow against the chapter's words for any text.
func checkReadRow(t *testing.T, c *faxcode.Codes, text string, width int) {
	t.Helper()
	want, read, wantErr := rowOf(text, width)
	low := len(text)%3 == 0
	r := readerOf(text, low)
	got, err := ReadRow(r, c, width)
	if !slices.Equal(got, want) || err != wantErr || r.Left() != len(text)-read {
		t.Fatalf("ReadRow(%s, %d), low %t: %v, error %d, %d left; want %v, error %d, %d left", text, width, low, got, err, r.Left(), want, wantErr, len(text)-read)
	}
}

// checkReadAgainst holds ReadAgainst against the chapter's words for any text.
func checkReadAgainst(t *testing.T, c *faxcode.Codes, text string, above []int) {
	t.Helper()
	want, read, wantErr := againstOf(text, above)
	low := len(text)%3 == 0
	r := readerOf(text, low)
	got, err := ReadAgainst(r, c, changesOf(above), len(above))
	if !slices.Equal(got, want) || err != wantErr || r.Left() != len(text)-read {
		t.Fatalf("ReadAgainst(%s, %v), low %t: %v, error %d, %d left; want %v, error %d, %d left", text, above, low, got, err, r.Left(), want, wantErr, len(text)-read)
	}
}

// P14.1: the chapter's example, and others worked out by hand.
func TestKnownRows(t *testing.T) {
	c := faxcode.New()
	for _, x := range []struct {
		row   []int
		width int
		text  string
	}{
		{[]int{2, 4, 7}, 8, "0111 11 1000 010"},
		{nil, 8, "10011"},
		{[]int{0}, 8, "00110101 000101"},
		{[]int{0, 3}, 8, "00110101 10 1100"},
		{nil, 1, "000111"},
		{[]int{0}, 1, "00110101 010"},
		{[]int{1}, 2, "000111 010"},
		{[]int{0, 1}, 2, "00110101 010 000111"},
		{nil, 64, "11011 00110101"},
		{[]int{0}, 64, "00110101 0000001111 0000110111"},
		{[]int{63}, 64, "00110100 010"},
		{nil, 32768, strings.Repeat("000000011111", 12) + "000000010011 00110101"},
		{[]int{0}, 32768, "00110101" + strings.Repeat("000000011111", 12) + "000000010011 0000110111"},
		{[]int{32767}, 32768, strings.Repeat("000000011111", 12) + "000000010010 00110100 010"},
	} {
		text := plain(x.text)
		w := bits.NewWriter(false)
		if err := WriteRow(w, c, x.row, x.width); err != api.OK || !isText(w, text, false) {
			t.Errorf("WriteRow(%v, %d): error %d, %d bits %x; want %s", x.row, x.width, err, w.Len(), w.Bytes(), x.text)
		}
		r := readerOf(text+"01", false)
		if row, err := ReadRow(r, c, x.width); !slices.Equal(row, x.row) || err != api.OK || r.Left() != 2 {
			t.Errorf("ReadRow(%s, %d): %v, error %d, %d left; want %v", x.text, x.width, row, err, r.Left(), x.row)
		}
		if got := writeRowOf(pixelsOf(x.row, x.width)); got != text {
			t.Errorf("the test's own model of %v, %d, is %s; want %s", x.row, x.width, got, x.text)
		}
	}
}

// P14.1, P14.4: all rows of the first widths, and some of others.
func TestRowsAreReadBack(t *testing.T) {
	c := faxcode.New()
	for width := 1; width <= 12; width++ {
		eachRow(width, func(pixels []int) {
			for _, low := range orders {
				checkRow(t, c, pixels, low)
			}
		})
	}
	for seed := range uint32(400) {
		width := 13 + mixed(1, seed, 3000)[0]
		for _, longest := range []int{1, 3, 70, 900} {
			checkRow(t, c, mixedRow(width, seed, longest), seed%2 == 0)
		}
	}
	for seed, longest := range []int{1, 2, 100, 6000, 32768} {
		checkRow(t, c, mixedRow(32768, uint32(seed), longest), seed%2 == 0)
	}
}

// P14.1: all texts up to a length.
func TestReadRowOfEveryShortText(t *testing.T) {
	c := faxcode.New()
	eachText(14, func(text string) {
		for _, width := range []int{1, 2, 3, 5, 8, 64, 70} {
			checkReadRow(t, c, text, width)
		}
	})
}

// P14.1: run lengths of 0 anywhere, and those that add up to just the width, to
// less, and to more; all rows of some lengths up to a number of them.
func TestReadRowOfRunLengths(t *testing.T) {
	c := faxcode.New()
	lengths := []int{0, 1, 2, 3, 64, 66}
	var grow func(text string, count int)
	grow = func(text string, count int) {
		for _, width := range []int{1, 2, 3, 4, 66, 67} {
			checkReadRow(t, c, text, width)
			checkReadRow(t, c, text+"0101100", width)
			if count > 0 {
				checkReadRow(t, c, text[:len(text)-1], width)
			}
		}
		if count == 5 {
			return
		}
		for _, n := range lengths {
			grow(text+lengthOf(n, count%2), count+1)
		}
	}
	grow("", 0)
}

// P14.1: what run lengths of 0 come to, and errors, worked out by hand.
func TestKnownReadingsOfRows(t *testing.T) {
	c := faxcode.New()
	const white0, black0, white3, black5, white8 = "00110101", "0000110111", "1000", "0011", "10011"
	for _, x := range []struct {
		text string
		row  []int
		err  api.Errno
		left int
	}{
		{white3 + black0 + black5, nil, api.ErrCut, 0},
		{white3 + black0 + "1100", nil, api.OK, 0},
		{white3 + black0 + white0 + black5, []int{3}, api.OK, 0},
		{white3 + black0 + white0 + black0 + "1100", nil, api.OK, 0},
		{white0 + black0 + white0 + black0 + white8, nil, api.OK, 0},
		{white0 + black0 + white0 + black0 + white0 + black5 + white3, []int{0, 5}, api.OK, 0},
		{white3 + "10" + white0 + "11", []int{3}, api.OK, 0},
		{white8 + black0, nil, api.OK, 10},
		{white3 + black5 + white0, []int{3}, api.OK, 8},
		{"", nil, api.ErrCut, 0},
		{white3, nil, api.ErrCut, 0},
		{white3 + black0, nil, api.ErrCut, 0},
		{white3 + black5[:3], nil, api.ErrCut, 0},
		{"10100", nil, api.ErrLong, 0},
		{white3 + "0010" + "1", nil, api.ErrLong, 1},
		{white3 + black0 + "1110", nil, api.ErrLong, 0},
		{"11011", nil, api.ErrLong, 0},
		{white3 + "0000001111", nil, api.ErrLong, 0},
		{"00000000", nil, api.ErrCode, 0},
		{white3 + "00000000" + "11", nil, api.ErrCode, 2},
		{faxcode.EOL, nil, api.ErrCode, 4},
	} {
		for _, low := range orders {
			r := readerOf(x.text, low)
			if row, err := ReadRow(r, c, 8); !slices.Equal(row, x.row) || err != x.err || r.Left() != x.left {
				t.Errorf("ReadRow(%s, 8), low %t: %v, error %d, %d left; want %v, error %d, %d left", x.text, low, row, err, r.Left(), x.row, x.err, x.left)
			}
		}
	}
}

// P14.2: worked out by hand.
func TestKnownRowsAgainst(t *testing.T) {
	c := faxcode.New()
	for _, x := range []struct {
		row, above []int
		width      int
		text       string
	}{
		{nil, nil, 20, same},
		{nil, nil, 1, same},
		{[]int{0}, []int{0}, 1, same + same},
		{[]int{0}, nil, 1, left1 + same},
		{[]int{0}, nil, 3, left3 + same},
		{[]int{0}, nil, 4, "001 00110101 011"},
		{nil, []int{0}, 1, right1},
		{nil, []int{0}, 3, right3},
		{nil, []int{0}, 4, "001 1011 0000110111"},
		{nil, []int{0, 3}, 4, pass + same},
		{[]int{3}, []int{0, 3}, 4, right3 + same},
		{[]int{4}, []int{0, 3}, 5, pass + left1 + same},
		{[]int{3, 6}, []int{3, 6}, 20, same + same + same},
		{[]int{4, 5}, []int{3, 6}, 20, right1 + left1 + same},
		{nil, []int{3, 6}, 20, pass + same},
		{[]int{6}, []int{3, 6}, 20, right3 + same},
		{[]int{7}, []int{3, 6}, 20, pass + "001 000111 00000100"},
		{[]int{1, 2}, nil, 20, "001 000111 010" + same},
		{[]int{9, 15}, []int{2, 4, 9, 15}, 20, pass + same + same + same},
		{[]int{9, 15}, []int{2, 4, 5, 6, 9, 15}, 20, pass + pass + same + same + same},
		{[]int{5}, []int{1, 3, 8}, 20, pass + left3 + same},
		{[]int{2, 4, 7}, []int{5}, 8, left3 + "001 11 1000" + same},
		{[]int{0, 2}, []int{1}, 8, left1 + "001 11 1110"},
	} {
		text := plain(x.text)
		if got := writeAgainstOf(pixelsOf(x.row, x.width), pixelsOf(x.above, x.width)); got != text {
			t.Errorf("the test's own model of %v below %v, %d, is %s; want %s", x.row, x.above, x.width, got, text)
		}
		w := bits.NewWriter(false)
		if err := WriteAgainst(w, c, x.row, x.above, x.width); err != api.OK || !isText(w, text, false) {
			t.Errorf("WriteAgainst(%v, %v, %d): error %d, %d bits %x; want %s", x.row, x.above, x.width, err, w.Len(), w.Bytes(), x.text)
		}
		r := readerOf(text+"01", false)
		if row, err := ReadAgainst(r, c, x.above, x.width); !slices.Equal(row, x.row) || err != api.OK || r.Left() != 2 {
			t.Errorf("ReadAgainst(%s, %v, %d): %v, error %d, %d left; want %v", x.text, x.above, x.width, row, err, r.Left(), x.row)
		}
	}
}

// P14.2, P14.4: all rows below all rows of the first widths, and some of others.
func TestRowsAgainstAreReadBack(t *testing.T) {
	c := faxcode.New()
	for width := 1; width <= 8; width++ {
		eachRow(width, func(above []int) {
			eachRow(width, func(row []int) { checkAgainst(t, c, row, above, row[0] == 1) })
		})
	}
	for seed := range uint32(2000) {
		width := 8 + mixed(1, seed, 300)[0]
		above := mixedRow(width, seed, 1+int(seed%30))
		low := seed%2 == 0
		checkAgainst(t, c, near(above, seed), above, low)
		checkAgainst(t, c, above, near(above, seed+1), low)
		checkAgainst(t, c, mixedRow(width, seed+5, 8), above, low)
	}
	for seed, longest := range []int{1, 2, 100, 6000, 32768} {
		above := mixedRow(32768, uint32(seed), longest)
		checkAgainst(t, c, near(above, uint32(seed)), above, seed%2 == 0)
		checkAgainst(t, c, mixedRow(32768, uint32(seed), 40), above, seed%2 == 0)
	}
}

// P14.2: all texts up to a length, below all rows of the first widths.
func TestReadAgainstOfEveryShortText(t *testing.T) {
	c := faxcode.New()
	for width := 1; width <= 5; width++ {
		eachRow(width, func(above []int) {
			eachText(17-width, func(text string) { checkReadAgainst(t, c, text, above) })
		})
	}
}

// P14.2: all rows of some steps up to a number of them: run lengths of 0 among
// them, and those that end before the width, at it, and behind it.
func TestReadAgainstOfSteps(t *testing.T) {
	c := faxcode.New()
	type step struct {
		text   string
		colour int
		turns  bool
	}
	var list []step
	for _, word := range []string{left3, left2, left1, same, right1, right2, right3} {
		list = append(list, step{word, 0, true}, step{word, 1, true})
	}
	list = append(list, step{pass, 0, false}, step{pass, 1, false})
	for colour := range 2 {
		for _, pair := range [][2]int{{0, 0}, {0, 1}, {1, 0}, {2, 1}, {3, 0}, {0, 5}, {64, 0}} {
			list = append(list, step{two + lengthOf(pair[0], colour) + lengthOf(pair[1], 1-colour), colour, false})
		}
	}
	aboves := [][]int{pixelsOf(nil, 5), pixelsOf([]int{0}, 5), pixelsOf([]int{1, 2}, 5), pixelsOf([]int{0, 3, 4}, 5), pixelsOf([]int{2}, 4), pixelsOf([]int{0, 1, 2}, 3)}
	var grow func(text string, colour, count int)
	grow = func(text string, colour, count int) {
		for _, above := range aboves {
			checkReadAgainst(t, c, text, above)
			if count == 4 {
				checkReadAgainst(t, c, text[:len(text)-1], above)
			}
		}
		if count == 4 {
			return
		}
		for _, s := range list {
			if s.colour != colour {
				continue
			}
			if s.turns {
				grow(text+s.text, 1-colour, count+1)
			} else {
				grow(text+s.text, colour, count+1)
			}
		}
	}
	grow("", 0, 0)
}

// P14.2: readings that no writing comes to, and errors, worked out by hand.
func TestKnownReadingsAgainst(t *testing.T) {
	c := faxcode.New()
	const white0, black0 = "00110101", "0000110111"
	for _, x := range []struct {
		text  string
		above []int
		width int
		row   []int
		err   api.Errno
		left  int
	}{
		// the row ends at the width, however it comes there
		{pass + same, nil, 20, nil, api.OK, 1},
		{pass + same, []int{3}, 20, nil, api.OK, 1},
		{left1 + pass + same, nil, 20, []int{19}, api.OK, 1},
		{two + "0001000" + black0 + same, nil, 20, nil, api.OK, 1},
		{two + white0 + "00001101000" + same, nil, 20, []int{0}, api.OK, 1},
		// run lengths of 0 take a change away, or leave it
		{two + white0 + black0 + same, nil, 20, nil, api.OK, 0},
		{two + white0 + black0 + left1 + same, []int{1}, 20, nil, api.ErrForm, 1},
		{two + white0 + black0 + same + same, []int{0, 1, 5}, 20, []int{5}, api.OK, 0},
		{two + white0 + black0 + same + same, []int{0}, 20, nil, api.OK, 1},
		{same + two + black0 + white0 + same, []int{3}, 20, []int{3}, api.OK, 0},
		{same + two + black0 + "1000" + same, []int{3}, 20, []int{6}, api.OK, 0},
		{same + two + "10" + white0 + same, []int{3}, 20, []int{3}, api.OK, 0},
		{same + two + "10" + white0 + two + "10" + white0 + same, []int{3}, 20, []int{3}, api.OK, 0},
		{two + "1000" + black0 + two + white0 + "11" + same, nil, 20, []int{3, 5}, api.OK, 0},
		{same + pass + same, []int{3, 5, 7}, 20, []int{3}, api.OK, 0},
		{same + pass + two + black0 + white0 + same, []int{3, 5, 7}, 20, []int{3}, api.OK, 0},
		{pass + two + white0 + "11" + same, []int{3, 5}, 20, []int{5, 7}, api.OK, 0},
		// a mode leads no way but on, and not beyond the width
		{left1, []int{0}, 20, nil, api.ErrForm, 0},
		{left2, []int{0}, 20, nil, api.ErrForm, 0},
		{left2, []int{1}, 20, nil, api.ErrForm, 0},
		{left3, []int{0}, 20, nil, api.ErrForm, 0},
		{left1 + same, []int{1}, 20, []int{0}, api.OK, 0},
		{left3 + same, []int{3}, 20, []int{0}, api.OK, 0},
		{same + left1, []int{3, 4}, 20, nil, api.ErrForm, 0},
		{same + left2, []int{3, 4}, 20, nil, api.ErrForm, 0},
		{same + left1 + same, []int{3, 5}, 20, []int{3, 4}, api.OK, 0},
		{pass + left1, []int{3, 4, 5}, 20, nil, api.ErrForm, 0},
		{pass + same + same, []int{3, 4, 5}, 20, []int{5}, api.OK, 0},
		{right1, nil, 20, nil, api.ErrForm, 0},
		{right2, nil, 20, nil, api.ErrForm, 0},
		{right3, nil, 20, nil, api.ErrForm, 0},
		{right3, []int{18}, 20, nil, api.ErrForm, 0},
		{right2 + "1", []int{18}, 20, nil, api.OK, 1},
		{right1 + "1", []int{19}, 20, nil, api.OK, 1},
		{same + right1, []int{3}, 20, nil, api.ErrForm, 0},
		// layer 13's errors
		{"", nil, 20, nil, api.ErrCut, 0},
		{same, []int{3}, 20, nil, api.ErrCut, 0},
		{same + "000000", []int{3}, 20, nil, api.ErrCut, 0},
		{two, nil, 20, nil, api.ErrCut, 0},
		{two + "1000", nil, 20, nil, api.ErrCut, 0},
		{beyond + "11", nil, 20, nil, api.ErrSupport, 2},
		{same + beyond, []int{3}, 20, nil, api.ErrSupport, 0},
		{"0000000", nil, 20, nil, api.ErrCode, 0},
		{faxcode.EOL, nil, 20, nil, api.ErrCode, 5},
		{same + faxcode.EOL, []int{3}, 20, nil, api.ErrCode, 5},
		{two + "00000000", nil, 20, nil, api.ErrCode, 0},
		{two + "1000" + "00000000", nil, 20, nil, api.ErrCode, 0},
		{two + "0010111" + "11", nil, 20, nil, api.ErrLong, 2},
		{two + "11011", nil, 20, nil, api.ErrLong, 0},
		{two + "0001100" + "11" + "1", nil, 20, nil, api.ErrLong, 1},
		{two + "0001100" + "010" + "1", nil, 20, []int{19}, api.OK, 1},
		{two + "0001000" + "010", nil, 20, nil, api.ErrLong, 0},
		{same + two + "0000010111", []int{5}, 20, nil, api.ErrLong, 0},
		{same + two + "000011000" + white0 + "1", []int{5}, 20, []int{5}, api.OK, 1},
		{same + two + "000011000" + "000111", []int{5}, 20, nil, api.ErrLong, 0},
	} {
		for _, low := range orders {
			r := readerOf(x.text, low)
			if row, err := ReadAgainst(r, c, x.above, x.width); !slices.Equal(row, x.row) || err != x.err || r.Left() != x.left {
				t.Errorf("ReadAgainst(%s, %v, %d), low %t: %v, error %d, %d left; want %v, error %d, %d left", x.text, x.above, x.width, low, row, err, r.Left(), x.row, x.err, x.left)
			}
		}
		if row, read, err := againstOf(x.text, pixelsOf(x.above, x.width)); !slices.Equal(row, x.row) || err != x.err || read != len(x.text)-x.left {
			t.Errorf("the test's own model of %s below %v, %d: %v, error %d, %d read", x.text, x.above, x.width, row, err, read)
		}
	}
}

// wrongWidths are those that no row has.
var wrongWidths = []int{math.MinInt, math.MinInt32, -32768, -8, -1, 0, 32769, 32776, 65536, 65544, 1 << 31, 1 << 32, 1<<32 + 8, math.MaxInt - 1, math.MaxInt}

// wrongRows are changes that aren't valid for the width 8.
var wrongRows = [][]int{{-1}, {8}, {9}, {math.MinInt}, {math.MaxInt}, {3, 3}, {3, 2}, {0, 0}, {-1, 2}, {2, 8}, {1, 2, 2}, {1, 3, 2, 4}, {0, 1, 2, 3, 4, 5, 6, 7, 8}}

// checkWriters asks whether calls that write have ErrArg, and write nothing.
func checkWriters(t *testing.T, c *faxcode.Codes, row []int, width int) {
	t.Helper()
	w := bits.NewWriter(false)
	w.Word("101")
	for _, each := range []*bits.Writer{w, nil} {
		if err := WriteRow(each, c, row, width); err != api.ErrArg {
			t.Errorf("WriteRow(%v, %d): error %d", row, width, err)
		}
		for _, other := range [][]int{row, nil, {2}} {
			if err := WriteAgainst(each, c, row, other, width); err != api.ErrArg {
				t.Errorf("WriteAgainst(%v, %v, %d): error %d", row, other, width, err)
			}
			if err := WriteAgainst(each, c, other, row, width); err != api.ErrArg {
				t.Errorf("WriteAgainst(%v, %v, %d): error %d", other, row, width, err)
			}
		}
	}
	if !isText(w, "101", false) {
		t.Errorf("%v, %d: %d bits %x", row, width, w.Len(), w.Bytes())
	}
}

// checkReaders asks whether calls that read have ErrArg, whatever bits there
// are, read nothing, and answer no row beside it; ReadRow takes no row.
func checkReaders(t *testing.T, c *faxcode.Codes, above []int, width int, withRow bool) {
	t.Helper()
	for _, text := range []string{"", "0000", "00000000", beyond, left1, "10011", "11011", two + "11011"} {
		r := readerOf(text, false)
		for _, each := range []*bits.Reader{r, nil} {
			if row, err := ReadAgainst(each, c, above, width); len(row) != 0 || err != api.ErrArg {
				t.Errorf("ReadAgainst(%s, %v, %d): %v, error %d", text, above, width, row, err)
			}
			if !withRow {
				continue
			}
			if row, err := ReadRow(each, c, width); len(row) != 0 || err != api.ErrArg {
				t.Errorf("ReadRow(%s, %d): %v, error %d", text, width, row, err)
			}
		}
		if r.Left() != len(text) {
			t.Errorf("%s, %v, %d: %d left", text, above, width, r.Left())
		}
	}
}

// ErrArg, ahead of all other errors: a width out of range.
func TestWrongWidths(t *testing.T) {
	for _, c := range []*faxcode.Codes{faxcode.New(), nil, {}} {
		for _, width := range wrongWidths {
			for _, row := range [][]int{nil, {}, {0}, {2, 4, 7}, {-1}, {5, 5}, {40000}} {
				checkWriters(t, c, row, width)
				checkReaders(t, c, row, width, true)
			}
		}
	}
	for _, width := range wrongWidths {
		for _, rows := range [][][]int{nil, {}, {nil}, {{0}}, {{2, 4, 7}, nil}, {{-1}}} {
			if b, err := Encode(rows, width); len(b) != 0 || err != api.ErrArg {
				t.Errorf("Encode(%v, %d): %x, error %d", rows, width, b, err)
			}
		}
		for _, n := range []int{math.MinInt, -1, 0, 1, 2, math.MaxInt} {
			for _, b := range [][]byte{nil, {0x98}, {0, 0}, {0xd8, 0}} {
				if rows, err := Decode(b, width, n); len(rows) != 0 || err != api.ErrArg {
					t.Errorf("Decode(%x, %d, %d): %v, error %d", b, width, n, rows, err)
				}
			}
		}
	}
}

// ErrArg, ahead of all other errors: changes that aren't valid.
func TestWrongRows(t *testing.T) {
	for _, c := range []*faxcode.Codes{faxcode.New(), nil, {}} {
		for _, row := range wrongRows {
			checkWriters(t, c, row, 8)
			checkReaders(t, c, row, 8, false)
		}
	}
	for _, row := range wrongRows {
		for _, rows := range [][][]int{{row}, {nil, row}, {row, nil}, {{2, 4, 7}, {0}, row, row}} {
			if b, err := Encode(rows, 8); len(b) != 0 || err != api.ErrArg {
				t.Errorf("Encode(%v, 8): %x, error %d", rows, b, err)
			}
		}
	}
}

// ErrArg, ahead of all other errors: no Codes, or no writer.
func TestNilArguments(t *testing.T) {
	for _, width := range []int{1, 8, 32768} {
		for _, row := range [][]int{nil, {0}} {
			checkWriters(t, nil, row, width)
			checkReaders(t, nil, row, width, true)
			for _, c := range []*faxcode.Codes{faxcode.New(), {}} {
				if err := WriteRow(nil, c, row, width); err != api.ErrArg {
					t.Error(width, row, err)
				}
				if err := WriteAgainst(nil, c, row, row, width); err != api.ErrArg {
					t.Error(width, row, err)
				}
			}
		}
	}
}

// A nil reader has no bits (P2.1), which is layer 13's error.
func TestNilReaders(t *testing.T) {
	c := faxcode.New()
	for _, width := range []int{1, 8, 32768} {
		if row, err := ReadRow(nil, c, width); len(row) != 0 || err != api.ErrCut {
			t.Error(width, row, err)
		}
		if row, err := ReadAgainst(nil, c, []int{0}, width); len(row) != 0 || err != api.ErrCut {
			t.Error(width, row, err)
		}
	}
}

// P1: Codes that faxcode.New didn't make have no code words; what layer 13
// answers of them is passed on.
func TestCodesWithoutWords(t *testing.T) {
	c := &faxcode.Codes{}
	w := bits.NewWriter(false)
	want := c.Write(w, 0, false)
	if err := WriteRow(w, c, []int{0, 3}, 8); err == api.OK || err != want || w.Len() != 0 {
		t.Error(err, w.Len())
	}
	for _, above := range [][]int{nil, {0}, {0, 1}} { // Two, Same, Pass
		if err := WriteAgainst(w, c, []int{0, 3}, above, 8); err == api.OK || err != want || w.Len() != 0 {
			t.Error(above, err, w.Len())
		}
	}
	if err := WriteAgainst(w, c, []int{5}, []int{0, 1}, 8); err == api.OK || err != want || w.Len() != 0 {
		t.Error(err, w.Len())
	}
	_, wantRead := c.Read(readerOf("1", false), 8, false)
	if row, err := ReadRow(readerOf("10011", false), c, 8); len(row) != 0 || err == api.OK || err != wantRead {
		t.Error(row, err)
	}
	if row, err := ReadAgainst(readerOf(same, false), c, nil, 8); len(row) != 0 || err == api.OK || err != wantRead {
		t.Error(row, err)
	}
}

// filled is a text with noughts up to the next whole byte.
func filled(text string) string {
	return text + strings.Repeat("0", (8-len(text)%8)%8)
}

// pageOf is what Encode must answer, by the chapter's words.
func pageOf(rows [][]int, width int) []byte {
	var text strings.Builder
	for _, row := range rows {
		text.WriteString(filled(writeRowOf(pixelsOf(row, width))))
	}
	return bytesOf(text.String(), false)
}

// isPage tells whether rows are others.
func isPage(rows, others [][]int) bool {
	return slices.EqualFunc(rows, others, func(a, b []int) bool { return slices.Equal(a, b) })
}

// checkPage holds Encode and Decode against the chapter's words.
func checkPage(t *testing.T, rows [][]int, width int) {
	t.Helper()
	want := pageOf(rows, width)
	b, err := Encode(rows, width)
	if !slices.Equal(b, want) || err != api.OK {
		t.Fatalf("Encode(%v, %d): %x, error %d; want %x", rows, width, b, err, want)
	}
	for n := range len(rows) + 1 {
		if got, err := Decode(b, width, n); !isPage(got, rows[:n]) || err != api.OK {
			t.Fatalf("Decode(%x, %d, %d): %v, error %d; want %v", b, width, n, got, err, rows[:n])
		}
	}
	for _, n := range []int{len(rows) + 1, len(rows) + 2, math.MaxInt} {
		if got, err := Decode(b, width, n); len(got) != 0 || err != api.ErrCut {
			t.Fatalf("Decode(%x, %d, %d): %v, error %d; want ErrCut", b, width, n, got, err)
		}
	}
}

// P14.3: worked out by hand.
func TestKnownPages(t *testing.T) {
	for _, x := range []struct {
		rows  [][]int
		width int
		text  string
	}{
		{nil, 8, ""},
		{[][]int{{}}, 8, "10011000"},
		{[][]int{{2, 4, 7}}, 8, "01111110 00010000"},
		{[][]int{{}, {0}, {2, 4, 7}}, 8, "10011000 00110101 00010100 01111110 00010000"},
		{[][]int{{0}, {}}, 64, "00110101 00000011 11000011 01110000 11011001 10101000"},
		{[][]int{{0}, {0}}, 2, "00110101 11000000 00110101 11000000"},
		{[][]int{{}, {}}, 31, "00011010 00011010"},
	} {
		want := bytesOf(plain(x.text), false)
		if b, err := Encode(x.rows, x.width); !slices.Equal(b, want) || err != api.OK {
			t.Errorf("Encode(%v, %d): %x, error %d; want %x", x.rows, x.width, b, err, want)
		}
		if rows, err := Decode(want, x.width, len(x.rows)); !isPage(rows, x.rows) || err != api.OK {
			t.Errorf("Decode(%x, %d, %d): %v, error %d; want %v", want, x.width, len(x.rows), rows, err, x.rows)
		}
		checkPage(t, x.rows, x.width)
	}
}

// P14.3, P14.4
func TestPagesAreReadBack(t *testing.T) {
	for seed := range uint32(300) {
		width := 1 + mixed(1, seed, 200)[0]
		var rows [][]int
		for y := range int(seed % 13) {
			rows = append(rows, changesOf(mixedRow(width, seed*16+uint32(y), 1+int(seed%50))))
		}
		checkPage(t, rows, width)
	}
	for _, width := range []int{1, 63, 64, 2560, 32768} {
		checkPage(t, [][]int{{0}, nil, {width - 1}, nil, {0}}, width)
	}
}

// P14.3: ErrArg if there are to be fewer than no rows, ahead of ReadRow's
// errors; the first row with an error decides; what follows the last row, and
// what fills up the byte behind each, doesn't matter.
func TestDecode(t *testing.T) {
	for _, x := range []struct {
		text string
		n    int
		rows [][]int
		err  api.Errno
	}{
		{"", -1, nil, api.ErrArg},
		{"00000000", -1, nil, api.ErrArg},
		{"10011000", math.MinInt, nil, api.ErrArg},
		{"", 0, nil, api.OK},
		{"00000000", 0, nil, api.OK},
		{"", 1, nil, api.ErrCut},
		{"", math.MaxInt, nil, api.ErrCut},
		{"10011000", 1, [][]int{nil}, api.OK},
		{"10011111 10011001", 2, [][]int{nil, nil}, api.OK},
		{"10011111 10011001", 3, nil, api.ErrCut},
		{"10011111 10011001 00000000", 2, [][]int{nil, nil}, api.OK},
		{"10011111 10011001 00000000", 3, nil, api.ErrCode},
		{"10011111 00000000 11011000", 3, nil, api.ErrCode},
		{"10011111 11011000 00000000", 3, nil, api.ErrLong},
		{"10011111 11011000 00000000", 1, [][]int{nil}, api.OK},
		{"00110101 00010111 00110101 00010100", 2, [][]int{{0}, {0}}, api.OK},
		{"00110101 000101", 1, [][]int{{0}}, api.OK},
		{"00110101 0001010011", 2, nil, api.ErrCut},
		{"01111110 00010000 10011000", 2, [][]int{{2, 4, 7}, nil}, api.OK},
		{"01111110 00010000", 2, nil, api.ErrCut},
		{"01111110", 1, nil, api.ErrCut},
	} {
		b := bytesOf(plain(x.text), false)
		if rows, err := Decode(b, 8, x.n); !isPage(rows, x.rows) || err != x.err {
			t.Errorf("Decode(%s, 8, %d): %v, error %d; want %v, error %d", x.text, x.n, rows, err, x.rows, x.err)
		}
	}
}

// P14.3: all data of up to two bytes, held against readings of single rows.
func TestDecodeOfShortData(t *testing.T) {
	for n := range 1 << 16 {
		b := []byte{byte(n >> 8), byte(n)}
		text := textOf(b)
		checkDecode(t, b, text, []int{1, 3, 64}[n%3], 2)
		if n < 256 {
			for width := 1; width < 70; width += 3 {
				checkDecode(t, b[1:], text[8:], width, 1)
			}
		}
	}
}

// textOf is the bits of bytes.
func textOf(b []byte) string {
	var text strings.Builder
	for _, c := range b {
		for i := range 8 {
			text.WriteByte('0' + c<<i>>7)
		}
	}
	return text.String()
}

// checkDecode holds Decode against the chapter's words for any bytes.
func checkDecode(t *testing.T, b []byte, text string, width, n int) {
	t.Helper()
	var want [][]int
	wantErr := api.OK
	at := 0
	for range n {
		row, read, err := rowOf(text[at:], width)
		if err != api.OK {
			want, wantErr = nil, err
			break
		}
		want = append(want, row)
		at += (read + 7) / 8 * 8
	}
	if rows, err := Decode(b, width, n); !isPage(rows, want) || err != wantErr {
		t.Fatalf("Decode(%x, %d, %d): %v, error %d; want %v, error %d", b, width, n, rows, err, want, wantErr)
	}
}

// Rule 3: nothing that is handed in is changed, not even behind its end.
func TestArgumentsStayAsTheyAre(t *testing.T) {
	c := faxcode.New()
	full := []int{2, 4, 7, 1, 1}
	row, above := full[:3], []int{0, 5, 99}[:2]
	b := []byte{0x98, 0x35, 0x14, 0xff, 0xff}
	WriteRow(bits.NewWriter(false), c, row, 8)
	WriteAgainst(bits.NewWriter(false), c, row, above, 8)
	WriteAgainst(bits.NewWriter(false), c, above, row, 8)
	ReadAgainst(readerOf(pass+two+"000111"+"010"+same+same, false), c, row, 8)
	Encode([][]int{row, above, row}, 8)
	Decode(b[:3], 8, 2)
	if !slices.Equal(full, []int{2, 4, 7, 1, 1}) || !slices.Equal(above[:3], []int{0, 5, 99}) {
		t.Error(full, above[:3])
	}
	if !slices.Equal(b, []byte{0x98, 0x35, 0x14, 0xff, 0xff}) {
		t.Errorf("%x", b)
	}
}

// Rule 3: what comes of a call is its caller's alone: no list of it lies behind
// another one, nor does any call keep it.
func TestResultsAreTheCallersOwn(t *testing.T) {
	rows := [][]int{{2, 4, 7}, {1}, nil, {0, 3}}
	b, _ := Encode(rows, 8)
	for range 2 {
		got, err := Decode(pageOf(rows, 8), 8, 4)
		if !isPage(got, rows) || err != api.OK {
			t.Fatal(got, err)
		}
		for i := range got {
			whole := got[i][:cap(got[i])]
			for k := range whole {
				whole[k] = 1000
			}
			if !isPage(got[i+1:], rows[i+1:]) {
				t.Error(i, got)
			}
		}
		clear(b[:cap(b)])
		if b, err = Encode(rows, 8); !slices.Equal(b, pageOf(rows, 8)) || err != api.OK {
			t.Error(b, err)
		}
	}
	c := faxcode.New()
	above := []int{3, 6}
	row, _ := ReadAgainst(readerOf(same+same+same, false), c, above, 8)
	row[0] = 0
	if !slices.Equal(above, []int{3, 6}) {
		t.Error(above)
	}
}

// P2: the same call answers the same, whatever Codes were used for before.
func TestTheSameCallAnswersTheSame(t *testing.T) {
	used := faxcode.New()
	for _, c := range []*faxcode.Codes{used, faxcode.New(), used} {
		for seed := range uint32(50) {
			above := mixedRow(200, seed, 9)
			checkRow(t, c, above, seed%2 == 0)
			checkAgainst(t, c, near(above, seed), above, seed%2 == 0)
			text := writeAgainstOf(near(above, seed), above)
			for k := 0; k < len(text); k += 7 {
				checkReadAgainst(t, c, text[:k], above)
				checkReadRow(t, c, text[k:], 200)
			}
		}
	}
}

// everySecond is a row of the greatest width that changes at all places, or at
// every second one, and so on.
func everySecond(start, by int) []int {
	var changes []int
	for x := start; x < 32768; x += by {
		changes = append(changes, x)
	}
	return changes
}

// P1: rows with many changes, and with many run lengths of 0, end soon.
func TestLongRows(t *testing.T) {
	c := faxcode.New()
	full := everySecond(0, 1)
	for _, x := range []struct{ row, above []int }{
		{full, full}, {full, nil}, {nil, full}, {everySecond(1, 2), full}, {full, everySecond(0, 9)}, {everySecond(0, 9), full}, {everySecond(3, 8), everySecond(0, 8)},
	} {
		for range 30 {
			w := bits.NewWriter(false)
			if err := WriteAgainst(w, c, x.row, x.above, 32768); err != api.OK {
				t.Fatal(err)
			}
			if row, err := ReadAgainst(bits.NewReader(w.Bytes(), false), c, x.above, 32768); !slices.Equal(row, x.row) || err != api.OK {
				t.Fatal(len(row), err)
			}
		}
	}
	page := slices.Repeat([][]int{full}, 60)
	b, _ := Encode(page, 32768)
	if rows, err := Decode(b, 32768, len(page)); !isPage(rows, page) || err != api.OK {
		t.Error(err)
	}
	const white0, black0 = "00110101", "0000110111"
	text := strings.Repeat(two+white0+black0, 50000)
	if row, err := ReadAgainst(readerOf(text+two+"1000"+"11"+same, false), c, nil, 32768); !slices.Equal(row, []int{3, 5}) || err != api.OK {
		t.Error(row, err)
	}
	text = strings.Repeat(two+black0+white0, 50001)
	if row, err := ReadAgainst(readerOf(strings.Repeat(same, 32767)+text+same, false), c, full[:32767], 32768); !slices.Equal(row, full[:32767]) || err != api.OK {
		t.Error(len(row), err)
	}
	text = strings.Repeat(white0+black0, 50000)
	if row, err := ReadRow(readerOf(text+"1000"+"11"+"1000", false), c, 8); !slices.Equal(row, []int{3, 5}) || err != api.OK {
		t.Error(row, err)
	}
}

// P1: whatever comes, the calls end, and they answer by the chapter's words.
func FuzzEveryCallEnds(f *testing.F) {
	f.Add([]byte{0x7e, 0x10, 0x98}, []byte{0x31}, 8, 1)
	f.Add([]byte{0x35, 0x0d, 0xc0, 0x26}, []byte{0xff, 0}, 12, 2)
	f.Add([]byte{0x2b, 0x92, 0x80}, []byte{0x55, 0xaa}, 16, -1)
	f.Add([]byte{}, []byte{}, 40000, math.MaxInt)
	c := faxcode.New()
	f.Fuzz(func(t *testing.T, data, other []byte, width, n int) {
		if width < 1 || width > 32768 {
			checkWriters(t, c, nil, width)
			checkReaders(t, c, nil, width, true)
			return
		}
		pixels := func(b []byte) []int {
			row := make([]int, width)
			for x, bit := range textOf(b[:min(len(b), (width+7)/8)]) {
				if x < width {
					row[x] = int(bit - '0')
				}
			}
			return row
		}
		data = data[:min(len(data), 300)]
		row, above, text := pixels(data), pixels(other), textOf(data)
		checkRow(t, c, row, len(data)%2 == 1)
		checkAgainst(t, c, row, above, len(data)%2 == 1)
		checkReadRow(t, c, text, width)
		checkReadAgainst(t, c, text, above)
		if n >= 0 {
			checkDecode(t, data, text, width, n)
		} else if rows, err := Decode(data, width, n); len(rows) != 0 || err != api.ErrArg {
			t.Fatal(n, rows, err)
		}
	})
}
