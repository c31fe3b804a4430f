package faxcode

import (
	"math"
	"slices"
	"strconv"
	"strings"
	"testing"

	"mezzotint/api"
	"mezzotint/bits"
)

// The chapter's tables, as they stand there.
const (
	whiteTable = `
0 00110101, 1 000111, 2 0111, 3 1000, 4 1011, 5 1100, 6 1110, 7 1111,
8 10011, 9 10100, 10 00111, 11 01000, 12 001000, 13 000011, 14 110100, 15 110101,
16 101010, 17 101011, 18 0100111, 19 0001100, 20 0001000, 21 0010111, 22 0000011, 23 0000100,
24 0101000, 25 0101011, 26 0010011, 27 0100100, 28 0011000, 29 00000010, 30 00000011, 31 00011010,
32 00011011, 33 00010010, 34 00010011, 35 00010100, 36 00010101, 37 00010110, 38 00010111, 39 00101000,
40 00101001, 41 00101010, 42 00101011, 43 00101100, 44 00101101, 45 00000100, 46 00000101, 47 00001010,
48 00001011, 49 01010010, 50 01010011, 51 01010100, 52 01010101, 53 00100100, 54 00100101, 55 01011000,
56 01011001, 57 01011010, 58 01011011, 59 01001010, 60 01001011, 61 00110010, 62 00110011, 63 00110100`

	whiteMultiples = `
64 11011, 128 10010, 192 010111, 256 0110111, 320 00110110, 384 00110111, 448 01100100, 512 01100101,
576 01101000, 640 01100111, 704 011001100, 768 011001101, 832 011010010, 896 011010011, 960 011010100, 1024 011010101,
1088 011010110, 1152 011010111, 1216 011011000, 1280 011011001, 1344 011011010, 1408 011011011, 1472 010011000, 1536 010011001,
1600 010011010, 1664 011000, 1728 010011011`

	blackTable = `
0 0000110111, 1 010, 2 11, 3 10, 4 011, 5 0011, 6 0010, 7 00011,
8 000101, 9 000100, 10 0000100, 11 0000101, 12 0000111, 13 00000100, 14 00000111, 15 000011000,
16 0000010111, 17 0000011000, 18 0000001000, 19 00001100111, 20 00001101000, 21 00001101100, 22 00000110111, 23 00000101000,
24 00000010111, 25 00000011000, 26 000011001010, 27 000011001011, 28 000011001100, 29 000011001101, 30 000001101000, 31 000001101001,
32 000001101010, 33 000001101011, 34 000011010010, 35 000011010011, 36 000011010100, 37 000011010101, 38 000011010110, 39 000011010111,
40 000001101100, 41 000001101101, 42 000011011010, 43 000011011011, 44 000001010100, 45 000001010101, 46 000001010110, 47 000001010111,
48 000001100100, 49 000001100101, 50 000001010010, 51 000001010011, 52 000000100100, 53 000000110111, 54 000000111000, 55 000000100111,
56 000000101000, 57 000001011000, 58 000001011001, 59 000000101011, 60 000000101100, 61 000001011010, 62 000001100110, 63 000001100111`

	blackMultiples = `
64 0000001111, 128 000011001000, 192 000011001001, 256 000001011011, 320 000000110011, 384 000000110100, 448 000000110101, 512 0000001101100,
576 0000001101101, 640 0000001001010, 704 0000001001011, 768 0000001001100, 832 0000001001101, 896 0000001110010, 960 0000001110011, 1024 0000001110100,
1088 0000001110101, 1152 0000001110110, 1216 0000001110111, 1280 0000001010010, 1344 0000001010011, 1408 0000001010100, 1472 0000001010101, 1536 0000001011010,
1600 0000001011011, 1664 0000001100100, 1728 0000001100101`

	bothMultiples = `
1792 00000001000, 1856 00000001100, 1920 00000001101, 1984 000000010010, 2048 000000010011, 2112 000000010100, 2176 000000010101, 2240 000000010110,
2304 000000010111, 2368 000000011100, 2432 000000011101, 2496 000000011110, 2560 000000011111`

	modeTable = `Left3 0000010, Left2 000010, Left1 010, Same 1, Right1 011, Right2 000011, Right3 0000011, Two 001, Pass 0001, Beyond 0000001`
)

var (
	orders  = []bool{false, true}
	colours = []bool{false, true}
)

// word is a code word and what it stands for: a run length, or the number of a mode.
type word struct {
	text string
	n    int
}

// tableOf is the pairs of a table of the chapter: of each, what stands ahead of
// the code word, and the code word.
func tableOf(table string) [][2]string {
	var pairs [][2]string
	for pair := range strings.SplitSeq(table, ",") {
		parts := strings.Fields(pair)
		pairs = append(pairs, [2]string{parts[0], parts[1]})
	}
	return pairs
}

// wordsOf is the code words of a colour, in the chapter's order.
func wordsOf(isBlack bool) []word {
	table := whiteTable + "," + whiteMultiples
	if isBlack {
		table = blackTable + "," + blackMultiples
	}
	var words []word
	for _, pair := range tableOf(table + "," + bothMultiples) {
		n, err := strconv.Atoi(pair[0])
		if err != nil {
			panic(err)
		}
		words = append(words, word{pair[1], n})
	}
	return words
}

// modesOf is the code words of modes, in the chapter's order, from number -3 on.
func modesOf() []word {
	var words []word
	for i, pair := range tableOf(modeTable) {
		words = append(words, word{pair[1], i - 3})
	}
	return words
}

// textOf is the code word for what it stands for.
func textOf(words []word, n int) string {
	return words[slices.IndexFunc(words, func(w word) bool { return w.n == n })].text
}

// writeOf is the bits that Write must append, by the chapter's words.
func writeOf(words []word, n int) string {
	text := ""
	for n >= 2560 {
		text += textOf(words, 2560)
		n -= 2560
	}
	for multiple := 2496; multiple > 0; multiple -= 64 {
		if multiple <= n {
			return text + textOf(words, multiple) + textOf(words, n-multiple)
		}
	}
	return text + textOf(words, n)
}

// wordOf is what reading a code word of some must answer, by layer 6's words:
// what it stands for, how many bits were read, and the error.
func wordOf(words []word, text string) (n, read int, err api.Errno) {
	for k := 1; k <= len(text); k++ {
		begins := false
		for _, w := range words {
			if w.text == text[:k] {
				return w.n, k, api.OK
			}
			begins = begins || strings.HasPrefix(w.text, text[:k])
		}
		if !begins {
			return 0, k, api.ErrCode
		}
	}
	return 0, len(text), api.ErrCut
}

// readOf is what Read must answer, by the chapter's words: the run length, how
// many bits were read, and the error.
func readOf(words []word, text string, most int) (sum, read int, err api.Errno) {
	for {
		n, more, err := wordOf(words, text[read:])
		read += more
		sum += n
		switch {
		case err != api.OK:
			return 0, read, err
		case sum > most:
			return 0, read, api.ErrLong
		case n < 64:
			return sum, read, api.OK
		}
	}
}

// bytesOf is the bytes that have the bits of a text; the last one is filled up.
func bytesOf(text string, low bool) []byte {
	w := bits.NewWriter(low)
	w.Word(text)
	return w.Bytes()
}

// readerOf is a reader that has exactly the bits of a text left.
func readerOf(text string, low bool) *bits.Reader {
	ahead := (8 - len(text)%8) % 8
	r := bits.NewReader(bytesOf("10110101"[:ahead]+text, low), low)
	r.Read(ahead)
	return r
}

// isText tells whether a writer has exactly the bits of a text.
func isText(w *bits.Writer, text string, low bool) bool {
	return w.Len() == len(text) && slices.Equal(w.Bytes(), bytesOf(text, low))
}

// eachText goes through all texts of 0 and 1 up to a length.
func eachText(most int, visit func(string)) {
	var grow func(string)
	grow = func(text string) {
		visit(text)
		if len(text) < most {
			grow(text + "0")
			grow(text + "1")
		}
	}
	grow("")
}

// mixed is n numbers below a bound that follow no simple pattern, the same for
// the same seed.
func mixed(n int, seed uint32, bound int) []int {
	numbers := make([]int, n)
	for i := range numbers {
		seed = seed*1664525 + 1013904223
		numbers[i] = int(seed>>8) % bound
	}
	return numbers
}

// checkWrite holds Write against the chapter's words, behind bits that are
// there already.
func checkWrite(t *testing.T, c *Codes, words []word, n int, isBlack, low bool) {
	t.Helper()
	for _, ahead := range []string{"", "10110"} {
		w := bits.NewWriter(low)
		w.Word(ahead)
		want := ahead + writeOf(words, n)
		if err := c.Write(w, n, isBlack); err != api.OK || !isText(w, want, low) {
			t.Fatalf("Write(%d, black %t), low %t: error %d, %d bits %x; want %s", n, isBlack, low, err, w.Len(), w.Bytes(), want)
		}
	}
}

// checkRead holds Read against the chapter's words, in either bit order.
func checkRead(t *testing.T, c *Codes, words []word, text string, most int, isBlack bool) {
	t.Helper()
	want, read, wantErr := readOf(words, text, most)
	for _, low := range orders {
		r := readerOf(text, low)
		n, err := c.Read(r, most, isBlack)
		if n != want || err != wantErr || r.Left() != len(text)-read {
			t.Fatalf("Read(%s, %d, black %t), low %t: %d, error %d, %d left; want %d, error %d, %d left", text, most, isBlack, low, n, err, r.Left(), want, wantErr, len(text)-read)
		}
	}
}

// checkReadMode holds ReadMode against the chapter's words, in either bit order.
func checkReadMode(t *testing.T, c *Codes, text string) {
	t.Helper()
	want, read, wantErr := wordOf(modesOf(), text)
	if want == 6 {
		want, wantErr = 0, api.ErrSupport
	}
	for _, low := range orders {
		r := readerOf(text, low)
		m, err := c.ReadMode(r)
		if int(m) != want || err != wantErr || r.Left() != len(text)-read {
			t.Fatalf("ReadMode(%s), low %t: %d, error %d, %d left; want %d, error %d, %d left", text, low, m, err, r.Left(), want, wantErr, len(text)-read)
		}
	}
}

// The numbers and the text that the chapter gives names.
func TestConstants(t *testing.T) {
	if Greatest != 2560 || EOL != strings.Repeat("0", 11)+"1" {
		t.Error(Greatest, EOL)
	}
	for i, m := range []Mode{Left3, Left2, Left1, Same, Right1, Right2, Right3, Two, Pass, Beyond} {
		if int(m) != i-3 {
			t.Errorf("number %d is %d", i, m)
		}
	}
}

// P13.1: words worked out by hand, of each group one at least.
func TestKnownWords(t *testing.T) {
	for _, c := range []struct {
		isBlack bool
		index   int
		word    string
		n       int
	}{
		{false, 0, "00110101", 0}, {false, 1, "000111", 1}, {false, 2, "0111", 2}, {false, 63, "00110100", 63},
		{false, 64, "11011", 64}, {false, 65, "10010", 128}, {false, 89, "011000", 1664}, {false, 90, "010011011", 1728},
		{true, 0, "0000110111", 0}, {true, 2, "11", 2}, {true, 3, "10", 3}, {true, 63, "000001100111", 63},
		{true, 64, "0000001111", 64}, {true, 65, "000011001000", 128}, {true, 90, "0000001100101", 1728},
		{false, 91, "00000001000", 1792}, {true, 91, "00000001000", 1792},
		{false, 103, "000000011111", 2560}, {true, 103, "000000011111", 2560},
	} {
		words, lengths := Words(c.isBlack)
		if len(words) != 104 || len(lengths) != 104 {
			t.Fatalf("black %t: %d words, %d lengths", c.isBlack, len(words), len(lengths))
		}
		if words[c.index] != c.word || lengths[c.index] != c.n {
			t.Errorf("black %t, index %d: %s, %d; want %s, %d", c.isBlack, c.index, words[c.index], lengths[c.index], c.word, c.n)
		}
	}
}

// P13.1: the chapter's tables.
func TestWordsOfBothColours(t *testing.T) {
	for _, isBlack := range colours {
		words, lengths := Words(isBlack)
		table := wordsOf(isBlack)
		if len(words) != len(table) || len(lengths) != len(table) {
			t.Fatalf("black %t: %d words, %d lengths; want %d", isBlack, len(words), len(lengths), len(table))
		}
		for i, w := range table {
			if words[i] != w.text || lengths[i] != w.n {
				t.Errorf("black %t, index %d: %s, %d; want %s, %d", isBlack, i, words[i], lengths[i], w.text, w.n)
			}
			if i > 0 && lengths[i] <= lengths[i-1] {
				t.Errorf("black %t: %d behind %d", isBlack, lengths[i], lengths[i-1])
			}
		}
	}
}

// P13.1
func TestWordsOfModes(t *testing.T) {
	words, modes := Modes()
	if want := []Mode{Left3, Left2, Left1, Same, Right1, Right2, Right3, Two, Pass, Beyond}; !slices.Equal(modes, want) {
		t.Error(modes)
	}
	if want := []string{"0000010", "000010", "010", "1", "011", "000011", "0000011", "001", "0001", "0000001"}; !slices.Equal(words, want) {
		t.Error(words)
	}
	names := "Left3 Left2 Left1 Same Right1 Right2 Right3 Two Pass Beyond"
	var named []string
	for i, pair := range tableOf(modeTable) {
		named = append(named, pair[0])
		if words[i] != pair[1] {
			t.Errorf("%s: %s; want %s", pair[0], words[i], pair[1])
		}
	}
	if strings.Join(named, " ") != names {
		t.Error(named)
	}
}

// P13.1, P2: what comes of a call is its caller's alone.
func TestTablesAreTheCallersOwn(t *testing.T) {
	c := New()
	for range 2 {
		for _, isBlack := range colours {
			words, lengths := Words(isBlack)
			for i, w := range wordsOf(isBlack) {
				if words[i] != w.text || lengths[i] != w.n {
					t.Fatalf("black %t, index %d: %s, %d", isBlack, i, words[i], lengths[i])
				}
			}
			clear(words[:cap(words)])
			clear(lengths[:cap(lengths)])
		}
		words, modes := Modes()
		for i, w := range modesOf() {
			if words[i] != w.text || int(modes[i]) != w.n {
				t.Fatalf("mode %d: %s, %d", i, words[i], modes[i])
			}
		}
		clear(words[:cap(words)])
		clear(modes[:cap(modes)])
		for _, codes := range []*Codes{c, New()} {
			checkWrite(t, codes, wordsOf(false), 5000, false, false)
			checkRead(t, codes, wordsOf(true), writeOf(wordsOf(true), 5000), 5000, true)
			checkReadMode(t, codes, "0001")
		}
	}
}

// P13.2: the chapter's examples, and others worked out by hand.
func TestKnownLengths(t *testing.T) {
	for _, c := range []struct {
		n       int
		isBlack bool
		text    string
	}{
		{64, false, "11011 00110101"},
		{0, true, "0000110111"},
		{0, false, "00110101"},
		{63, false, "00110100"},
		{63, true, "000001100111"},
		{65, false, "11011 000111"},
		{127, true, "0000001111 000001100111"},
		{128, true, "000011001000 0000110111"},
		{1728, false, "010011011 00110101"},
		{1791, false, "010011011 00110100"},
		{1792, false, "00000001000 00110101"},
		{1792, true, "00000001000 0000110111"},
		{2559, true, "000000011110 000001100111"},
		{2560, false, "000000011111 00110101"},
		{2560, true, "000000011111 0000110111"},
		{2561, true, "000000011111 010"},
		{2623, false, "000000011111 00110100"},
		{2624, false, "000000011111 11011 00110101"},
		{5119, false, "000000011111 000000011110 00110100"},
		{5120, false, "000000011111 000000011111 00110101"},
		{5184, true, "000000011111 000000011111 0000001111 0000110111"},
		{32768, false, strings.Repeat("000000011111", 12) + "000000010011 00110101"},
	} {
		text := strings.ReplaceAll(c.text, " ", "")
		w := bits.NewWriter(false)
		if err := New().Write(w, c.n, c.isBlack); err != api.OK || !isText(w, text, false) {
			t.Errorf("Write(%d, black %t): error %d, %d bits %x; want %s", c.n, c.isBlack, err, w.Len(), w.Bytes(), c.text)
		}
		if got := writeOf(wordsOf(c.isBlack), c.n); got != text {
			t.Errorf("the test's own model of %d, black %t, is %s; want %s", c.n, c.isBlack, got, c.text)
		}
		r := readerOf(text, false)
		if n, err := New().Read(r, c.n, c.isBlack); n != c.n || err != api.OK || r.Left() != 0 {
			t.Errorf("Read(%s, black %t): %d, error %d, %d left; want %d", c.text, c.isBlack, n, err, r.Left(), c.n)
		}
	}
}

// P13.2, P13.4: all run lengths that there are, each read back as long as it
// may be so long, and not if it may not.
func TestEveryLength(t *testing.T) {
	c := New()
	for _, isBlack := range colours {
		words := wordsOf(isBlack)
		for n := 0; n <= 32768; n++ {
			low := n%2 == 1
			if n < 2700 || n > 32700 || n%64 < 2 {
				checkWrite(t, c, words, n, isBlack, !low)
			}
			checkWrite(t, c, words, n, isBlack, low)
			text := writeOf(words, n)
			r := readerOf(text+"0110", low)
			if got, err := c.Read(r, n, isBlack); got != n || err != api.OK || r.Left() != 4 {
				t.Fatalf("%d, black %t: %d, error %d, %d left", n, isBlack, got, err, r.Left())
			}
			if got, err := c.Read(readerOf(text, low), n-1, isBlack); got != 0 || err != api.ErrLong {
				t.Fatalf("%d, black %t: %d, error %d; want ErrLong", n, isBlack, got, err)
			}
		}
	}
}

// P13.2: no other run length is written, to whatever writer; nothing is written then.
func TestWriteOfWrongLengths(t *testing.T) {
	c := New()
	w := bits.NewWriter(false)
	w.Word("101")
	for _, n := range []int{math.MinInt, math.MinInt32, -65536, -2560, -64, -63, -2, -1, 32769, 32770, 32832, 35328, 65535, 65536, 1 << 31, 1 << 32, 1<<32 + 5, math.MaxInt - 1, math.MaxInt} {
		for _, isBlack := range colours {
			for _, codes := range []*Codes{c, nil} {
				if err := codes.Write(w, n, isBlack); err != api.ErrArg || !isText(w, "101", false) {
					t.Errorf("Write(%d, black %t): error %d, %d bits", n, isBlack, err, w.Len())
				}
				if err := codes.Write(nil, n, isBlack); err != api.ErrArg {
					t.Errorf("Write(%d, black %t) to no writer: error %d", n, isBlack, err)
				}
			}
		}
	}
}

// P13.2: layer 6's error for a nil writer.
func TestWriteToANilWriter(t *testing.T) {
	c := New()
	for _, n := range []int{0, 1, 63, 64, 65, 2560, 2561, 5120, 32768} {
		for _, isBlack := range colours {
			if err := c.Write(nil, n, isBlack); err != api.ErrArg {
				t.Errorf("Write(%d, black %t): error %d", n, isBlack, err)
			}
		}
	}
}

// P13.2: all texts up to a length, with some bounds, negative ones among them.
func TestReadOfEveryShortText(t *testing.T) {
	c := New()
	mosts := []int{math.MinInt, -1, 0, 1, 2, 3, 62, 63, 64, 66, 1727, 1728, 2560, 2562, 32768, math.MaxInt}
	for _, isBlack := range colours {
		words := wordsOf(isBlack)
		i := 0
		eachText(15, func(text string) {
			i++
			checkRead(t, c, words, text, mosts[i%len(mosts)], isBlack)
			if len(text) < 11 {
				for _, most := range mosts {
					checkRead(t, c, words, text, most, isBlack)
				}
			}
		})
	}
}

// P13.2: of each code word and each pair of them, in whatever order, with
// bounds around what they add up to.
func TestReadOfPairsOfWords(t *testing.T) {
	c := New()
	for _, isBlack := range colours {
		words := wordsOf(isBlack)
		for _, one := range words {
			for most := one.n - 1; most <= one.n+1; most++ {
				checkRead(t, c, words, one.text, most, isBlack)
			}
			for k := range len(one.text) {
				checkRead(t, c, words, one.text[:k], one.n, isBlack)
			}
			for _, other := range words {
				for _, most := range []int{one.n - 1, one.n, one.n + other.n - 1, one.n + other.n} {
					checkRead(t, c, words, one.text+other.text, most, isBlack)
				}
			}
		}
	}
}

// P13.2: code words of multiples of 64 may come in any number and order.
func TestReadOfManyWords(t *testing.T) {
	c := New()
	for seed := range uint32(300) {
		for _, isBlack := range colours {
			words := wordsOf(isBlack)
			text, sum := "", 0
			for _, i := range mixed(int(seed)%20, seed, 40) {
				w := words[64+i]
				text += w.text
				sum += w.n
			}
			last := words[mixed(1, seed+999, 64)[0]]
			text += last.text
			sum += last.n
			for _, most := range []int{sum, sum + 1, sum - 1, sum / 2, math.MaxInt} {
				checkRead(t, c, words, text+"1011", most, isBlack)
			}
			for k := 0; k < len(text); k += 5 {
				checkRead(t, c, words, text[:k], sum, isBlack)
			}
		}
	}
}

// P13.2: a run length that is far longer than any that is written.
func TestReadOfAVeryLongLength(t *testing.T) {
	c := New()
	const times = 100000
	for _, isBlack := range colours {
		words := wordsOf(isBlack)
		text := strings.Repeat(textOf(words, 2560), times)
		whole := text + textOf(words, 7)
		if n, err := c.Read(readerOf(whole, false), math.MaxInt, isBlack); n != 2560*times+7 || err != api.OK {
			t.Error(isBlack, n, err)
		}
		if n, err := c.Read(readerOf(whole, false), 2560*times+6, isBlack); n != 0 || err != api.ErrLong {
			t.Error(isBlack, n, err)
		}
		if n, err := c.Read(readerOf(text, false), math.MaxInt, isBlack); n != 0 || err != api.ErrCut {
			t.Error(isBlack, n, err)
		}
		r := readerOf(whole, false)
		if n, err := c.Read(r, 32768, isBlack); n != 0 || err != api.ErrLong || r.Left() != len(whole)-13*12 {
			t.Error(isBlack, n, err, r.Left())
		}
	}
}

// P13.2: for each code word, the error of reading it comes ahead of ErrLong;
// and ErrLong, ahead of any error of the next one.
func TestReadsOrderOfErrors(t *testing.T) {
	c := New()
	for i, x := range []struct {
		text    string
		most    int
		isBlack bool
		want    api.Errno
		read    int
	}{
		{"", -1, false, api.ErrCut, 0},
		{"0011", -1, false, api.ErrCut, 4},
		{"00000000", -1, false, api.ErrCode, 8},
		{"00110101", -1, false, api.ErrLong, 8},
		{"0000110111", math.MinInt, true, api.ErrLong, 10},
		{"11011", 63, false, api.ErrLong, 5},
		{"1101100000000", 63, false, api.ErrLong, 5},
		{"11011", 64, false, api.ErrCut, 5},
		{"1101100110", 64, false, api.ErrCut, 10},
		{"1101100000000", 64, false, api.ErrCode, 13},
		{"11011000111", 64, false, api.ErrLong, 11},
		{"1101100011", 64, false, api.ErrCut, 10},
		{"11011000111", 65, false, api.OK, 11},
		{"1101100110101", 64, false, api.OK, 13},
		{"1101111011", 127, false, api.ErrLong, 10},
		{"0000001111" + "11", 66, true, api.OK, 12},
		{"0000001111" + "11", 65, true, api.ErrLong, 12},
		{"00000000", 9, true, api.ErrCode, 8},
	} {
		for _, low := range orders {
			r := readerOf(x.text, low)
			n, err := c.Read(r, x.most, x.isBlack)
			if err != x.want || r.Left() != len(x.text)-x.read || err != api.OK && n != 0 {
				t.Errorf("%d: %d, error %d, %d left; want error %d, %d left", i, n, err, r.Left(), x.want, len(x.text)-x.read)
			}
		}
	}
}

// P13.2, P13.3: a nil reader has no bits.
func TestReadOfANilReader(t *testing.T) {
	c := New()
	for _, isBlack := range colours {
		if n, err := c.Read(nil, 5, isBlack); n != 0 || err != api.ErrCut {
			t.Error(isBlack, n, err)
		}
	}
	if m, err := c.ReadMode(nil); m != 0 || err != api.ErrCut {
		t.Error(m, err)
	}
}

// P13.3
func TestWriteMode(t *testing.T) {
	c := New()
	for _, low := range orders {
		w := bits.NewWriter(low)
		text := ""
		for _, i := range append([]int{0, 1, 2, 3, 4, 5, 6, 7, 8}, mixed(50, 1, 9)...) {
			for _, wrong := range []Mode{math.MinInt, math.MinInt32, -13, -5, Left3 - 1, Beyond, Beyond + 1, 10, 1 << 32, math.MaxInt - 1, math.MaxInt} {
				if err := c.WriteMode(w, wrong); err != api.ErrArg {
					t.Errorf("WriteMode(%d): error %d", wrong, err)
				}
				if err := c.WriteMode(nil, wrong); err != api.ErrArg {
					t.Errorf("WriteMode(%d) to no writer: error %d", wrong, err)
				}
			}
			if err := c.WriteMode(nil, Mode(i-3)); err != api.ErrArg {
				t.Errorf("WriteMode(%d) to no writer: error %d", i-3, err)
			}
			text += modesOf()[i].text
			if err := c.WriteMode(w, Mode(i-3)); err != api.OK || !isText(w, text, low) {
				t.Fatalf("WriteMode(%d), low %t: error %d, %d bits %x; want %s", i-3, low, err, w.Len(), w.Bytes(), text)
			}
		}
	}
}

// P13.3: all texts up to a length.
func TestReadModeOfEveryShortText(t *testing.T) {
	c := New()
	eachText(12, func(text string) { checkReadMode(t, c, text) })
}

// P13.3: answers worked out by hand; the one for what isn't supported among them.
func TestKnownModes(t *testing.T) {
	c := New()
	for _, x := range []struct {
		text string
		want Mode
		err  api.Errno
		left int
	}{
		{"0000010", Left3, api.OK, 0},
		{"000010", Left2, api.OK, 0},
		{"010", Left1, api.OK, 0},
		{"1", Same, api.OK, 0},
		{"011", Right1, api.OK, 0},
		{"000011", Right2, api.OK, 0},
		{"0000011", Right3, api.OK, 0},
		{"001", Two, api.OK, 0},
		{"0001", Pass, api.OK, 0},
		{"0000001", 0, api.ErrSupport, 0},
		{"0000001111", 0, api.ErrSupport, 3},
		{"000000", 0, api.ErrCut, 0},
		{"0000000", 0, api.ErrCode, 0},
		{EOL, 0, api.ErrCode, 5},
		{"", 0, api.ErrCut, 0},
	} {
		r := readerOf(x.text, false)
		if m, err := c.ReadMode(r); m != x.want || err != x.err || r.Left() != x.left {
			t.Errorf("%s: %d, error %d, %d left; want %d, error %d, %d left", x.text, m, err, r.Left(), x.want, x.err, x.left)
		}
	}
}

// P13.3: with nil Codes nothing is read or written.
func TestNilCodes(t *testing.T) {
	var c *Codes
	w := bits.NewWriter(false)
	for _, n := range []int{-1, 0, 5, 64, 32768, 32769} {
		for _, isBlack := range colours {
			if err := c.Write(w, n, isBlack); err != api.ErrArg || w.Len() != 0 {
				t.Error(n, isBlack, err)
			}
			if err := c.Write(nil, n, isBlack); err != api.ErrArg {
				t.Error(n, isBlack, err)
			}
			r := readerOf("0011010111", false)
			if got, err := c.Read(r, n, isBlack); got != 0 || err != api.ErrArg || r.Left() != 10 {
				t.Error(n, isBlack, got, err, r.Left())
			}
			if got, err := c.Read(nil, n, isBlack); got != 0 || err != api.ErrArg {
				t.Error(n, isBlack, got, err)
			}
		}
	}
	for m := Left3 - 1; m <= Beyond+1; m++ {
		if err := c.WriteMode(w, m); err != api.ErrArg || w.Len() != 0 {
			t.Error(m, err)
		}
		if err := c.WriteMode(nil, m); err != api.ErrArg {
			t.Error(m, err)
		}
	}
	for _, text := range []string{"", "1", "0001", "0000001"} {
		r := readerOf(text, false)
		if m, err := c.ReadMode(r); m != 0 || err != api.ErrArg || r.Left() != len(text) {
			t.Error(text, m, err, r.Left())
		}
	}
	if m, err := c.ReadMode(nil); m != 0 || err != api.ErrArg {
		t.Error(m, err)
	}
}

// P13.4: none is a prefix of another one, nor of EOL, nor EOL of one.
func TestNoWordIsAPrefix(t *testing.T) {
	white, _ := Words(false)
	black, _ := Words(true)
	modes, _ := Modes()
	for _, words := range [][]string{white, black, modes} {
		words = append(words, EOL)
		for i, one := range words {
			if one == "" || strings.Trim(one, "01") != "" {
				t.Errorf("%q is no code word", one)
			}
			for k, other := range words {
				if i != k && strings.HasPrefix(other, one) {
					t.Errorf("%s is a prefix of %s", one, other)
				}
			}
		}
	}
}

// P13.4: EOL is none of the code words, wherever it stands.
func TestEOLIsRejected(t *testing.T) {
	c := New()
	for _, low := range orders {
		for _, isBlack := range colours {
			for _, ahead := range []int{0, 64, 2560} {
				text := EOL
				if ahead > 0 {
					text = textOf(wordsOf(isBlack), ahead) + EOL
				}
				if n, err := c.Read(readerOf(text, low), 32768, isBlack); n != 0 || err != api.ErrCode {
					t.Error(low, isBlack, ahead, n, err)
				}
			}
		}
		if m, err := c.ReadMode(readerOf(EOL, low)); m != 0 || err != api.ErrCode {
			t.Error(low, m, err)
		}
	}
}

// P13.4: run lengths of both colours and modes, one behind the other.
func TestWhatIsWrittenIsReadBack(t *testing.T) {
	for seed := range uint32(60) {
		low := seed%2 == 1
		writing, reading := New(), New()
		lengths := append(mixed(100, seed, 32769), mixed(100, seed+99, 70)...)
		kinds := mixed(len(lengths), seed+7, 3)
		w := bits.NewWriter(low)
		for i, n := range lengths {
			if err := writing.WriteMode(w, Mode(n%9-3)); err != api.OK {
				t.Fatal(seed, i, err)
			}
			if kinds[i] == 2 {
				continue
			}
			if err := writing.Write(w, n, kinds[i] == 1); err != api.OK {
				t.Fatal(seed, i, err)
			}
		}
		r := bits.NewReader(w.Bytes(), low)
		for i, n := range lengths {
			if m, err := reading.ReadMode(r); m != Mode(n%9-3) || err != api.OK {
				t.Fatal(seed, i, m, err)
			}
			if kinds[i] == 2 {
				continue
			}
			if got, err := reading.Read(r, 32768, kinds[i] == 1); got != n || err != api.OK {
				t.Fatal(seed, i, got, n, err)
			}
		}
		if r.At() != w.Len() {
			t.Error(seed, r.At(), w.Len())
		}
	}
}

// P2: what Codes answer doesn't hang on what they read and wrote before.
func TestTheSameCallAnswersTheSame(t *testing.T) {
	used := New()
	for i := range 50 {
		used.Write(bits.NewWriter(false), i*700, i%2 == 0)
		used.Write(nil, i, false)
		used.Read(readerOf(strings.Repeat("0", i), false), i, i%2 == 0)
		used.WriteMode(bits.NewWriter(true), Mode(i%9-3))
		used.ReadMode(readerOf("0000001", false))
	}
	for _, c := range []*Codes{used, New(), used} {
		for _, isBlack := range colours {
			for n := 0; n <= 32768; n += 511 {
				text := writeOf(wordsOf(isBlack), n)
				checkWrite(t, c, wordsOf(isBlack), n, isBlack, false)
				checkRead(t, c, wordsOf(isBlack), text, n, isBlack)
			}
		}
		for _, w := range modesOf() {
			checkReadMode(t, c, w.text)
		}
	}
}

// P1: Codes that New didn't make have no code words, but they don't panic.
func TestCodesWithoutWords(t *testing.T) {
	c := &Codes{}
	w := bits.NewWriter(false)
	if err := c.Write(w, 70, true); err == api.OK || w.Len() != 0 {
		t.Error(err, w.Len())
	}
	if err := c.WriteMode(w, Same); err == api.OK || w.Len() != 0 {
		t.Error(err, w.Len())
	}
	if n, err := c.Read(readerOf("11", false), 5, true); n != 0 || err == api.OK {
		t.Error(n, err)
	}
	if m, err := c.ReadMode(readerOf("1", false)); m != 0 || err == api.OK {
		t.Error(m, err)
	}
}

// P1: whatever comes, the calls end, and they answer by the chapter's words.
func FuzzEveryCallEnds(f *testing.F) {
	f.Add([]byte{0xd9, 0xa8}, 64, true, 5)
	f.Add([]byte{0x01, 0xf0, 0x1f, 0x35}, 5120, false, -3)
	f.Add([]byte{}, -1, true, 6)
	f.Add([]byte{0, 0x10}, math.MaxInt, false, math.MinInt)
	c := New()
	f.Fuzz(func(t *testing.T, data []byte, n int, isBlack bool, mode int) {
		words := wordsOf(isBlack)
		var text strings.Builder
		for _, b := range data[:min(len(data), 60)] {
			for i := range 8 {
				text.WriteByte('0' + b<<i>>7)
			}
		}
		checkRead(t, c, words, text.String(), n, isBlack)
		checkReadMode(t, c, text.String())
		if n >= 0 && n <= 32768 {
			checkWrite(t, c, words, n, isBlack, len(data)%2 == 1)
		} else if err := c.Write(bits.NewWriter(false), n, isBlack); err != api.ErrArg {
			t.Fatal(n, err)
		}
		w := bits.NewWriter(false)
		err := c.WriteMode(w, Mode(mode))
		if mode < -3 || mode > 5 {
			if err != api.ErrArg || w.Len() != 0 {
				t.Fatal(mode, err, w.Len())
			}
		} else if err != api.OK || !isText(w, modesOf()[mode+3].text, false) {
			t.Fatal(mode, err, w.Len())
		}
	})
}
