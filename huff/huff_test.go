package huff

import (
	"cmp"
	"math"
	"math/big"
	"slices"
	"strings"
	"testing"

	"mezzotint/api"
	"mezzotint/bits"
)

var orders = []bool{false, true}

var wrongIndexes = []int{math.MinInt, math.MinInt32, -256, -2, -1, 1 << 31, 1 << 32, 1 << 62, math.MaxInt - 1, math.MaxInt}

// upTo is the numbers from 0 on, as meanings of so many words.
func upTo(n int) []int {
	numbers := make([]int, n)
	for i := range numbers {
		numbers[i] = i
	}
	return numbers
}

// strs is all strings of letters, up to a length, from the empty one on.
func strs(letters string, most int) []string {
	list := []string{""}
	for i := 0; i < len(list); i++ {
		if len(list[i]) == most {
			break
		}
		for _, c := range letters {
			list = append(list, list[i]+string(c))
		}
	}
	return list
}

// eachList goes through all lists of some elements, up to a length.
func eachList[E any](elements []E, most int, visit func([]E)) {
	var grow func([]E)
	grow = func(list []E) {
		visit(list)
		if len(list) == most {
			return
		}
		for _, e := range elements {
			grow(append(slices.Clone(list), e))
		}
	}
	grow(nil)
}

// mixed is n numbers below a bound that follow no simple pattern, the same for
// the same seed.
func mixed(n int, seed uint32, bound int) []int {
	numbers := make([]int, n)
	for i := range numbers {
		seed = seed*1664525 + 1013904223
		numbers[i] = int(seed>>8) % bound
	}
	return numbers
}

// bookError is what New must answer for words, by the chapter's words.
func bookError(words []string) api.Errno {
	for i, word := range words {
		earlier := slices.DeleteFunc(slices.Clone(words[:i]), func(s string) bool { return s == "" })
		for k := range len(word) {
			if word[k] != '0' && word[k] != '1' {
				return api.ErrForm
			}
			if slices.Contains(earlier, word[:k]) {
				return api.ErrTwice
			}
		}
		for _, s := range earlier {
			if word != "" && strings.HasPrefix(s, word) {
				return api.ErrTwice
			}
		}
	}
	return api.OK
}

// readOf is what Read must answer, by the chapter's words: the index of the
// word, how many bits were read, and the error.
func readOf(words []string, text string) (index, read int, err api.Errno) {
	for k := 1; k <= len(text); k++ {
		if i := slices.Index(words, text[:k]); i >= 0 {
			return i, k, api.OK
		}
		if !slices.ContainsFunc(words, func(s string) bool { return strings.HasPrefix(s, text[:k]) }) {
			return 0, k, api.ErrCode
		}
	}
	return 0, len(text), api.ErrCut
}

// plusOne is a binary number plus 1, in as many digits; false if it takes more.
func plusOne(s string) (string, bool) {
	zero := strings.LastIndexByte(s, '0')
	if zero < 0 {
		return "", false
	}
	return s[:zero] + "1" + strings.Repeat("0", len(s)-zero-1), true
}

// canonOf is what Canon must answer, by the chapter's words: one word after the
// other, each from the one ahead of it.
func canonOf(lens []int) ([]string, bool, api.Errno) {
	var order []int
	total := new(big.Rat)
	for i, n := range lens {
		if n < 0 || n > 30 {
			return nil, false, api.ErrArg
		}
		if n > 0 {
			order = append(order, i)
			total.Add(total, big.NewRat(1, 1<<n))
		}
	}
	slices.SortStableFunc(order, func(a, b int) int { return cmp.Compare(lens[a], lens[b]) })
	words := make([]string, len(lens))
	last := ""
	for k, i := range order {
		if k > 0 {
			next, ok := plusOne(last)
			if !ok {
				return nil, false, api.ErrForm
			}
			last = next
		}
		last += strings.Repeat("0", lens[i]-len(last))
		words[i] = last
	}
	return words, total.Cmp(big.NewRat(1, 1)) == 0, api.OK
}

// bytesOf is the bytes that have the bits of a text; the last one is filled up.
func bytesOf(text string, low bool) []byte {
	w := bits.NewWriter(low)
	w.Word(text)
	return w.Bytes()
}

// readerOf is a reader that has exactly the bits of a text left.
func readerOf(text string, low bool) *bits.Reader {
	ahead := (8 - len(text)%8) % 8
	r := bits.NewReader(bytesOf("10110101"[:ahead]+text, low), low)
	r.Read(ahead)
	return r
}

// bookOf is the book of words, each of which means its index.
func bookOf(t *testing.T, words []string) *Book[int] {
	t.Helper()
	b, err := New(words, upTo(len(words)))
	if b == nil || err != api.OK {
		t.Fatalf("%q: error %d", words, err)
	}
	return b
}

// checkNew holds New against the chapter's words, and Len and Word of the book
// against its words.
func checkNew(t *testing.T, words []string) {
	t.Helper()
	b, err := New(words, upTo(len(words)))
	if want := bookError(words); err != want || (b == nil) != (want != api.OK) {
		t.Fatalf("%q: %v, error %d; want %d", words, b, err, want)
	}
	if err != api.OK {
		return
	}
	if b.Len() != len(words) {
		t.Fatalf("%q: Len %d", words, b.Len())
	}
	for i, word := range words {
		if got, err := b.Word(i); got != word || err != api.OK {
			t.Fatalf("%q: Word(%d) = %q, %d", words, i, got, err)
		}
	}
	for _, i := range append([]int{len(words), len(words) + 1}, wrongIndexes...) {
		if got, err := b.Word(i); got != "" || err != api.ErrNone {
			t.Fatalf("%q: Word(%d) = %q, %d", words, i, got, err)
		}
	}
}

// checkRead holds Read against the chapter's words, in either bit order.
func checkRead(t *testing.T, words []string, text string) {
	t.Helper()
	b := bookOf(t, words)
	index, read, wantErr := readOf(words, text)
	for _, low := range orders {
		r := readerOf(text, low)
		got, err := b.Read(r)
		if got != index || err != wantErr || r.Left() != len(text)-read {
			t.Fatalf("low %t: %q of %q = %d, error %d, %d left; want %d, error %d, %d left", low, text, words, got, err, r.Left(), index, wantErr, len(text)-read)
		}
	}
}

// checkCanon holds Canon against the chapter's words.
func checkCanon(t *testing.T, lens []int) {
	t.Helper()
	words, complete, err := Canon(lens)
	want, wantComplete, wantErr := canonOf(lens)
	if !slices.Equal(words, want) || complete != wantComplete || err != wantErr {
		t.Fatalf("%v: %q, %t, error %d; want %q, %t, error %d", lens, words, complete, err, want, wantComplete, wantErr)
	}
}

// checkWrittenIsRead writes words of a book and reads them back, in either bit order.
func checkWrittenIsRead(t *testing.T, words []string, indexes []int) {
	t.Helper()
	b := bookOf(t, words)
	for _, low := range orders {
		w := bits.NewWriter(low)
		var text strings.Builder
		for _, i := range indexes {
			if err := b.Write(w, i); err != api.OK {
				t.Fatalf("%q: Write(%d): error %d", words, i, err)
			}
			text.WriteString(words[i])
		}
		if w.Len() != text.Len() || !slices.Equal(w.Bytes(), bytesOf(text.String(), low)) {
			t.Fatalf("low %t: %q: %d bits, %x; want %q", low, words, w.Len(), w.Bytes(), text.String())
		}
		r := bits.NewReader(w.Bytes(), low)
		for _, i := range indexes {
			if got, err := b.Read(r); got != i || err != api.OK {
				t.Fatalf("low %t: %q: %d, error %d; want %d", low, words, got, err, i)
			}
		}
		if r.At() != text.Len() {
			t.Fatalf("low %t: %q: %d bits read; want %d", low, words, r.At(), text.Len())
		}
	}
}

// placesOf is the indices at which there are code words.
func placesOf(words []string) []int {
	return slices.DeleteFunc(upTo(len(words)), func(i int) bool { return words[i] == "" })
}

// The number that the chapter gives a name.
func TestConstant(t *testing.T) {
	if MaxLen != 30 {
		t.Error(MaxLen)
	}
}

// P6.3: the chapter's example.
func TestTheDocumentsExample(t *testing.T) {
	words, complete, err := Canon([]int{2, 1, 0, 2})
	if !slices.Equal(words, []string{"10", "0", "", "11"}) || !complete || err != api.OK {
		t.Errorf("%q, %t, %d", words, complete, err)
	}
}

// P6.1
func TestWordsOfABook(t *testing.T) {
	for _, words := range [][]string{
		nil,
		{},
		{""},
		{"", "", ""},
		{"0"},
		{"1"},
		{"", "1"},
		{"0", ""},
		{"", "0", "", "1", ""},
		{"0", "10", "110", "111"},
		{"111", "110", "10", "0"},
		{"00", "01", "10", "11"},
		{"0", "10", "", "110"},
		{strings.Repeat("1", 1000), strings.Repeat("1", 999) + "0", "0"},
		{"000000000001", "0000001", "0001", "1"},
	} {
		if want := bookError(words); want != api.OK {
			t.Fatalf("%q: %d", words, want)
		}
		checkNew(t, words)
	}
}

// P6.1: the errors of words, and which one comes first. Beside an error there
// is no book.
func TestNewErrors(t *testing.T) {
	for _, c := range []struct {
		words []string
		want  api.Errno
	}{
		{[]string{"2"}, api.ErrForm},
		{[]string{" "}, api.ErrForm},
		{[]string{"\x00"}, api.ErrForm},
		{[]string{"\x01"}, api.ErrForm},
		{[]string{"0\x00"}, api.ErrForm},
		{[]string{"/", "0"}, api.ErrForm},
		{[]string{"0 1"}, api.ErrForm},
		{[]string{"", "01x"}, api.ErrForm},
		{[]string{"é"}, api.ErrForm},
		{[]string{"１"}, api.ErrForm},
		{[]string{"\xb0"}, api.ErrForm},
		{[]string{"0", "0"}, api.ErrTwice},
		{[]string{"01", "", "01"}, api.ErrTwice},
		{[]string{"0", "01"}, api.ErrTwice},
		{[]string{"0", "0111"}, api.ErrTwice},
		{[]string{"01", "0"}, api.ErrTwice},
		{[]string{"0111", "0"}, api.ErrTwice},
		{[]string{"1", "01", "00", "1"}, api.ErrTwice},
		{[]string{"1", "01", "00", "0"}, api.ErrTwice},
		{[]string{"1", "01", "00", "10"}, api.ErrTwice},
		{[]string{"10", "11", "1"}, api.ErrTwice},
		// Of one byte, what the byte is comes first.
		{[]string{"0", "0x"}, api.ErrForm},
		{[]string{"01", "01x"}, api.ErrForm},
		{[]string{"01", "0x"}, api.ErrForm},
		// Of a word, an earlier byte comes first, and its last byte ahead of its end.
		{[]string{"0", "00x"}, api.ErrTwice},
		{[]string{"0", "01x"}, api.ErrTwice},
		{[]string{"01", "011x"}, api.ErrTwice},
		{[]string{"011", "01x"}, api.ErrForm},
		// Of words, an earlier one comes first.
		{[]string{"x", "0", "0"}, api.ErrForm},
		{[]string{"0", "0", "x"}, api.ErrTwice},
		{[]string{"0", "01", "x"}, api.ErrTwice},
		{[]string{"01", "0", "x"}, api.ErrTwice},
		{[]string{"0", "1x", "0"}, api.ErrForm},
		{[]string{"", "", "x"}, api.ErrForm},
	} {
		b, err := New(c.words, upTo(len(c.words)))
		if b != nil || err != c.want {
			t.Errorf("%q: %v, error %d; want %d", c.words, b, err, c.want)
		}
		checkNew(t, c.words)
	}
}

// P6.1
func TestNewWithOtherLengths(t *testing.T) {
	for _, words := range [][]string{nil, {}, {"0"}, {""}, {"0", "1"}, {"0", "0"}, {"x"}, {"0", "01", "x"}} {
		for n := range 5 {
			b, err := New(words, upTo(n))
			if n != len(words) && (b != nil || err != api.ErrArg) {
				t.Errorf("%q, %d meanings: %v, error %d; want ErrArg", words, n, b, err)
			}
			if n == len(words) && err == api.ErrArg {
				t.Errorf("%q, %d meanings: ErrArg", words, n)
			}
		}
	}
}

// P6.1: any byte, as the first, a middle and the last one of a word.
func TestNewWithEveryByte(t *testing.T) {
	for c := range 256 {
		s := string([]byte{byte(c)})
		for _, word := range []string{s, s + "1", "0" + s + "1", "01" + s} {
			want := api.ErrForm
			if c == '0' || c == '1' {
				want = api.OK
			}
			if b, err := New([]string{word}, []int{7}); err != want || (b == nil) != (want != api.OK) {
				t.Errorf("%q: %v, error %d; want %d", word, b, err, want)
			}
		}
	}
}

// P6.1: all lists of a few short words.
func TestNewOfEveryFewWords(t *testing.T) {
	visit := func(words []string) { checkNew(t, words) }
	eachList(strs("01x", 3), 2, visit)
	eachList(strs("01x", 2), 3, visit)
	eachList(strs("01", 3), 3, visit)
	eachList(strs("01", 2), 5, visit)
}

// P6.1, P6.2: a nil book, and one that New didn't make.
func TestBooksWithoutWords(t *testing.T) {
	made := bookOf(t, nil)
	for i, b := range []*Book[int]{nil, {}, made} {
		if b.Len() != 0 {
			t.Errorf("book %d: Len %d", i, b.Len())
		}
		for _, at := range append([]int{0, 1}, wrongIndexes...) {
			if word, err := b.Word(at); word != "" || err != api.ErrNone {
				t.Errorf("book %d: Word(%d) = %q, %d", i, at, word, err)
			}
			w := bits.NewWriter(false)
			if err := b.Write(w, at); err != api.ErrNone || w.Len() != 0 {
				t.Errorf("book %d: Write(%d): error %d, %d bits", i, at, err, w.Len())
			}
			if err := b.Write(nil, at); err != api.ErrNone {
				t.Errorf("book %d: Write(%d): error %d", i, at, err)
			}
		}
		for _, text := range []string{"0", "1", "01", "11010011"} {
			for _, low := range orders {
				if got, err := b.Read(readerOf(text, low)); got != 0 || err != api.ErrCode {
					t.Errorf("book %d: %q = %d, %d", i, text, got, err)
				}
			}
		}
	}
	var none *Book[int]
	for _, r := range []*bits.Reader{nil, bits.NewReader(nil, false), readerOf("1", true)} {
		left := r.Left()
		if got, err := none.Read(r); got != 0 || err != api.ErrCode || r.Left() != left {
			t.Error(got, err)
		}
	}
}

// P6.2: bit by bit: without a bit there is no word, and with one there is none that it begins.
func TestReadOfBooksWithoutWords(t *testing.T) {
	for _, words := range [][]string{nil, {""}, {"", "", ""}} {
		for _, text := range strs("01", 4) {
			checkRead(t, words, text)
		}
		b := bookOf(t, words)
		if got, err := b.Read(nil); got != 0 || err != api.ErrCut {
			t.Errorf("%q: %d, %d", words, got, err)
		}
		r := readerOf("101", false)
		if got, err := b.Read(r); got != 0 || err != api.ErrCode || r.Left() != 2 {
			t.Errorf("%q: %d, %d, %d left", words, got, err, r.Left())
		}
	}
}

// P6.2: words one after the other, then bits that begin none, then a cut.
func TestReadOneAfterTheOther(t *testing.T) {
	b, err := New([]string{"0", "", "10", "110"}, []string{"a", "b", "c", "d"})
	if err != api.OK {
		t.Fatal(err)
	}
	for _, low := range orders {
		r := readerOf("010110111"+"1100011", low)
		for i, c := range []struct {
			want string
			left int
			err  api.Errno
		}{
			{"a", 15, api.OK}, {"c", 13, api.OK}, {"d", 10, api.OK}, {"", 7, api.ErrCode}, {"d", 4, api.OK},
			{"a", 3, api.OK}, {"a", 2, api.OK}, {"", 0, api.ErrCut}, {"", 0, api.ErrCut},
		} {
			if got, err := b.Read(r); got != c.want || err != c.err || r.Left() != c.left {
				t.Errorf("low %t: call %d: %q, %d, %d left; want %q, %d, %d left", low, i, got, err, r.Left(), c.want, c.err, c.left)
			}
		}
	}
}

// P6.2: all bits, cut at every place, with all books of a few short words.
func TestReadOfEveryFewBits(t *testing.T) {
	texts := strs("01", 4)
	visit := func(words []string) {
		if bookError(words) != api.OK {
			return
		}
		for _, text := range texts {
			checkRead(t, words, text)
		}
	}
	eachList(strs("01", 3), 3, visit)
	eachList(strs("01", 2), 4, visit)
}

// P6.2: a word of many bits, cut at every place, and wrong at every place.
func TestReadOfALongWord(t *testing.T) {
	word := ""
	for _, n := range mixed(300, 5, 2) {
		word += string(rune('0' + n))
	}
	words := []string{"", word}
	for k := range len(word) + 1 {
		checkRead(t, words, word[:k])
		checkRead(t, words, word[:k]+"0110")
		checkRead(t, words, word[:k]+"1001")
	}
}

// P6.2: whatever type the meanings have, beside an error there is none.
func TestMeaningsOfOtherTypes(t *testing.T) {
	type pair struct {
		a int
		b string
	}
	words := []string{"0", "10"}
	numbers, _ := New(words, []uint8{5, 5})
	pairs, _ := New(words, []pair{{1, "x"}, {2, "y"}})
	lists, _ := New(words, [][]int{{1, 2}, nil})
	functions, _ := New(words, []func() int{func() int { return 3 }, nil})
	r := readerOf("0"+"0"+"0"+"0"+"11", false)
	if n, err := numbers.Read(r); n != 5 || err != api.OK {
		t.Error(n, err)
	}
	if p, err := pairs.Read(r); p != (pair{1, "x"}) || err != api.OK {
		t.Error(p, err)
	}
	if l, err := lists.Read(r); !slices.Equal(l, []int{1, 2}) || err != api.OK {
		t.Error(l, err)
	}
	if f, err := functions.Read(r); f == nil || f() != 3 || err != api.OK {
		t.Error(err)
	}
	for _, want := range []api.Errno{api.ErrCode, api.ErrCut} {
		if p, err := pairs.Read(r); p != (pair{}) || err != want {
			t.Error(p, err)
		}
	}
	if f, err := functions.Read(readerOf("1", false)); f != nil || err != api.ErrCut {
		t.Error(err)
	}
	if l, err := lists.Read(readerOf("11", false)); l != nil || err != api.ErrCode {
		t.Error(l, err)
	}
}

// P6.2: words that mean the same are different words all the same.
func TestEqualMeanings(t *testing.T) {
	b, err := New([]string{"0", "1"}, []string{"same", "same"})
	if err != api.OK {
		t.Fatal(err)
	}
	for _, text := range []string{"0", "1"} {
		if got, err := b.Read(readerOf(text, false)); got != "same" || err != api.OK {
			t.Error(text, got, err)
		}
	}
}

// P6.2
func TestWriteOneAfterTheOther(t *testing.T) {
	words := []string{"0", "", "10", "110", "1110101"}
	b := bookOf(t, words)
	for _, low := range orders {
		w := bits.NewWriter(low)
		text := ""
		for _, i := range []int{4, 0, 3, 2, 2, 0, 4, 3} {
			for _, wrong := range append([]int{1, 5, 6}, wrongIndexes...) {
				if err := b.Write(w, wrong); err != api.ErrNone {
					t.Errorf("Write(%d): error %d; want ErrNone", wrong, err)
				}
			}
			if err := b.Write(w, i); err != api.OK {
				t.Errorf("Write(%d): error %d", i, err)
			}
			text += words[i]
			if w.Len() != len(text) || !slices.Equal(w.Bytes(), bytesOf(text, low)) {
				t.Errorf("low %t: %d bits, %x; want %q", low, w.Len(), w.Bytes(), text)
			}
		}
	}
}

// P6.2: the writer's error, but not where there is nothing to write.
func TestWriteToANilWriter(t *testing.T) {
	b := bookOf(t, []string{"0", "", "10"})
	for i, want := range []api.Errno{api.ErrArg, api.ErrNone, api.ErrArg, api.ErrNone} {
		if err := b.Write(nil, i); err != want {
			t.Errorf("Write(%d): error %d; want %d", i, err, want)
		}
	}
	if err := b.Write(nil, -1); err != api.ErrNone {
		t.Error(err)
	}
}

// P6.3: words worked out by hand.
func TestCanonOfKnownLengths(t *testing.T) {
	for _, c := range []struct {
		lens     []int
		words    string
		complete bool
	}{
		{nil, "", false},
		{[]int{0}, "", false},
		{[]int{0, 0, 0}, ",,", false},
		{[]int{1}, "0", false},
		{[]int{0, 1}, ",0", false},
		{[]int{1, 1}, "0,1", true},
		{[]int{1, 0, 1}, "0,,1", true},
		{[]int{2}, "00", false},
		{[]int{1, 2}, "0,10", false},
		{[]int{2, 1}, "10,0", false},
		{[]int{2, 2, 2}, "00,01,10", false},
		{[]int{2, 2, 2, 2}, "00,01,10,11", true},
		{[]int{1, 3, 3}, "0,100,101", false},
		{[]int{3, 3, 3, 3, 3, 2, 4, 4}, "010,011,100,101,110,00,1110,1111", true},
		{[]int{5, 1}, "10000,0", false},
		{[]int{30}, strings.Repeat("0", 30), false},
		{[]int{30, 1, 30}, "1" + strings.Repeat("0", 29) + ",0,1" + strings.Repeat("0", 28) + "1", false},
	} {
		words, complete, err := Canon(c.lens)
		if strings.Join(words, ",") != c.words || len(words) != len(c.lens) || complete != c.complete || err != api.OK {
			t.Errorf("%v: %q, %t, error %d; want %q, %t", c.lens, words, complete, err, c.words, c.complete)
		}
		checkCanon(t, c.lens)
	}
}

// fixedLens is the lengths of the fixed literal and length code of RFC 1951.
func fixedLens() []int {
	return slices.Concat(slices.Repeat([]int{8}, 144), slices.Repeat([]int{9}, 112), slices.Repeat([]int{7}, 24), slices.Repeat([]int{8}, 8))
}

// P6.3: RFC 1951's own codes.
func TestCanonOfTheFixedCodes(t *testing.T) {
	words, complete, err := Canon(fixedLens())
	if !complete || err != api.OK || len(words) != 288 {
		t.Fatal(len(words), complete, err)
	}
	for i, want := range map[int]string{
		0: "00110000", 143: "10111111", 144: "110010000", 255: "111111111", 256: "0000000", 279: "0010111", 280: "11000000", 287: "11000111",
	} {
		if words[i] != want {
			t.Errorf("%d: %q; want %q", i, words[i], want)
		}
	}
	words, complete, err = Canon(slices.Repeat([]int{5}, 30))
	if complete || err != api.OK || words[29] != "11101" {
		t.Error(words, complete, err)
	}
}

// P6.3: the errors, and which one comes first. Beside an error there are no words.
func TestCanonErrors(t *testing.T) {
	for _, c := range []struct {
		lens []int
		want api.Errno
	}{
		{[]int{-1}, api.ErrArg},
		{[]int{31}, api.ErrArg},
		{[]int{32}, api.ErrArg},
		{[]int{63}, api.ErrArg},
		{[]int{64}, api.ErrArg},
		{[]int{1 << 32}, api.ErrArg},
		{[]int{1<<32 + 1}, api.ErrArg},
		{[]int{math.MinInt}, api.ErrArg},
		{[]int{math.MaxInt}, api.ErrArg},
		{[]int{1, 1, 31}, api.ErrArg},
		{[]int{0, 0, -1}, api.ErrArg},
		{[]int{1, 1, 1, 31}, api.ErrArg},
		{[]int{1, 1, 1, -1}, api.ErrArg},
		{[]int{31, 1, 1, 1}, api.ErrArg},
		{[]int{1, 1, 1}, api.ErrForm},
		{[]int{1, 1, 2}, api.ErrForm},
		{[]int{2, 1, 1}, api.ErrForm},
		{[]int{1, 2, 2, 2}, api.ErrForm},
		{[]int{1, 2, 2, 30}, api.ErrForm},
		{[]int{30, 1, 0, 1}, api.ErrForm},
		{[]int{2, 2, 2, 2, 2}, api.ErrForm},
		{[]int{2, 2, 2, 1}, api.ErrForm},
	} {
		words, complete, err := Canon(c.lens)
		if len(words) != 0 || complete || err != c.want {
			t.Errorf("%v: %q, %t, error %d; want error %d", c.lens, words, complete, err, c.want)
		}
		checkCanon(t, c.lens)
	}
}

// P6.3: all lists of a few short lengths, wrong ones among them.
func TestCanonOfEveryFewLengths(t *testing.T) {
	visit := func(lens []int) { checkCanon(t, lens) }
	eachList([]int{0, 1, 2, 3, 4}, 6, visit)
	eachList([]int{-1, 0, 1, 2, 30, 31}, 4, visit)
	eachList([]int{1, 2, 28, 29, 30}, 5, visit)
}

// P6.3: complete means that each string begins with a code word.
func TestCompleteCodes(t *testing.T) {
	texts := strs("01", 5)
	eachList([]int{0, 1, 2, 3, 5}, 5, func(lens []int) {
		words, complete, err := Canon(lens)
		if err != api.OK {
			return
		}
		want := true
		for _, text := range texts {
			if len(text) == 5 && !slices.ContainsFunc(words, func(s string) bool { return s != "" && strings.HasPrefix(text, s) }) {
				want = false
			}
		}
		if complete != want {
			t.Fatalf("%v: complete %t; want %t", lens, complete, want)
		}
	})
}

// P6.3: a code with a word of each length, which is complete with one more of
// the greatest length; one of its words shorter or longer, and it isn't.
func TestCanonOfAllLengths(t *testing.T) {
	for most := 1; most <= MaxLen; most++ {
		lens := append(upTo(most + 1)[1:], most)
		for _, turned := range orders {
			if turned {
				slices.Reverse(lens)
			}
			checkCanon(t, lens)
			if _, complete, err := Canon(lens); !complete || err != api.OK {
				t.Errorf("%v: %t, error %d", lens, complete, err)
			}
			for i := range lens {
				for _, step := range []int{-1, 1} {
					other := slices.Clone(lens)
					other[i] += step
					checkCanon(t, other)
				}
				checkCanon(t, slices.Delete(slices.Clone(lens), i, i+1))
			}
			checkCanon(t, append(slices.Clone(lens), MaxLen))
		}
	}
}

// P6.3: as many words of a length as there are, one fewer, and one more.
func TestCanonOfManyEqualLengths(t *testing.T) {
	for n := 1; n <= 16; n++ {
		for _, more := range []int{-1, 0, 1} {
			count := 1<<n + more
			words, complete, err := Canon(slices.Repeat([]int{n}, count))
			if more > 0 {
				if len(words) != 0 || complete || err != api.ErrForm {
					t.Errorf("%d of length %d: %d words, %t, error %d", count, n, len(words), complete, err)
				}
				continue
			}
			if len(words) != count || complete != (more == 0) || err != api.OK {
				t.Fatalf("%d of length %d: %d words, %t, error %d", count, n, len(words), complete, err)
			}
			for i, word := range words {
				if len(word) != n || i > 0 && words[i-1] >= word {
					t.Fatalf("%d of length %d: number %d is %q", count, n, i, word)
				}
			}
		}
	}
	for n := 17; n <= MaxLen; n++ {
		checkCanon(t, slices.Repeat([]int{n}, 100))
	}
	if words, complete, err := Canon(slices.Repeat([]int{1}, 1<<20)); len(words) != 0 || complete || err != api.ErrForm {
		t.Error(len(words), complete, err)
	}
}

// P6.3
func TestCanonOfMixedLengths(t *testing.T) {
	for seed := range uint32(2000) {
		checkCanon(t, mixed(int(seed)%40, seed, 31))
		checkCanon(t, mixed(int(seed)%20, seed, 8))
	}
	for seed := range uint32(20) {
		lens := mixed(2000, seed, 16)
		for i := range lens {
			lens[i] += 12
			if lens[i] > 24 {
				lens[i] = 0
			}
		}
		checkCanon(t, lens)
	}
}

// P6.4: all canonical codes of a few short lengths.
func TestEveryFewCanonicalWordsFormABook(t *testing.T) {
	eachList([]int{0, 1, 2, 3, 30}, 5, func(lens []int) {
		words, _, err := Canon(lens)
		if err != api.OK {
			return
		}
		checkNew(t, words)
		places := placesOf(words)
		checkWrittenIsRead(t, words, append(places, places...))
	})
}

// P6.4
func TestCanonicalBooksReadWhatTheyWrite(t *testing.T) {
	lists := [][]int{fixedLens(), slices.Repeat([]int{5}, 30), append(upTo(31)[1:], 30), slices.Repeat([]int{11}, 2048)}
	for seed := range uint32(200) {
		lists = append(lists, mixed(10, seed, 31), mixed(6, seed, 6))
	}
	for seed, lens := range lists {
		words, _, err := Canon(lens)
		places := placesOf(words)
		if err != api.OK || len(places) == 0 {
			continue
		}
		indexes := mixed(500, uint32(seed), len(places))
		for i := range indexes {
			indexes[i] = places[indexes[i]]
		}
		checkWrittenIsRead(t, words, indexes)
	}
}

// P6.1, P6.2: a book of many words.
func TestABookOfManyWords(t *testing.T) {
	words, complete, err := Canon(slices.Repeat([]int{16}, 1<<16))
	if !complete || err != api.OK {
		t.Fatal(complete, err)
	}
	checkWrittenIsRead(t, words, mixed(5000, 3, 1<<16))
	if b, err := New(append(words, words[777]), upTo(1<<16+1)); b != nil || err != api.ErrTwice {
		t.Error(err)
	}
	if b, err := New(append(words, words[777][:9]), upTo(1<<16+1)); b != nil || err != api.ErrTwice {
		t.Error(err)
	}
}

// P6.1: words far longer than those that Canon makes.
func TestABookOfVeryLongWords(t *testing.T) {
	ones := strings.Repeat("1", 200000)
	words := []string{ones, ones[1:] + "0", "0"}
	b := bookOf(t, words)
	checkWrittenIsRead(t, words, []int{2, 0, 1, 2})
	r := readerOf(ones[1:], false)
	if got, err := b.Read(r); got != 0 || err != api.ErrCut || r.Left() != 0 {
		t.Error(got, err, r.Left())
	}
	if b, err := New(append(words, ones[:100000]), upTo(4)); b != nil || err != api.ErrTwice {
		t.Error(err)
	}
}

// The rule that arguments are neither kept nor changed, nor read beyond their length.
func TestABookKeepsItsOwnWords(t *testing.T) {
	words, means := []string{"0", "10", "0", "x"}, []int{5, 6, 7, 8}
	b, err := New(words[:2], means[:2])
	if err != api.OK {
		t.Fatal(err)
	}
	if !slices.Equal(words, []string{"0", "10", "0", "x"}) || !slices.Equal(means, []int{5, 6, 7, 8}) {
		t.Error(words, means)
	}
	clear(words)
	clear(means)
	if word, err := b.Word(1); word != "10" || err != api.OK || b.Len() != 2 {
		t.Error(word, err, b.Len())
	}
	w := bits.NewWriter(false)
	if err := b.Write(w, 1); err != api.OK || w.Len() != 2 {
		t.Error(err, w.Len())
	}
	if got, err := b.Read(bits.NewReader(w.Bytes(), false)); got != 6 || err != api.OK {
		t.Error(got, err)
	}
}

// P2, with the rules that arguments aren't changed and results not shared.
func TestTheSameCallAnswersTheSame(t *testing.T) {
	lens := []int{3, 3, 3, 3, 3, 2, 4, 4, 1, 31}
	kept := slices.Clone(lens)
	want, _, _ := canonOf(lens[:8])
	for range 3 {
		words, complete, err := Canon(lens[:8])
		if !slices.Equal(words, want) || !complete || err != api.OK || !slices.Equal(lens, kept) {
			t.Error(words, complete, err, lens)
		}
		one, other := bookOf(t, words), bookOf(t, words)
		clear(words[:cap(words)])
		for i, word := range want {
			for _, b := range []*Book[int]{one, other, one} {
				if got, err := b.Read(readerOf(word, true)); got != i || err != api.OK {
					t.Error(word, got, err)
				}
				if _, err := b.Read(readerOf("1", true)); err != api.ErrCut {
					t.Error(err)
				}
			}
		}
	}
}

// wordsOf splits a text into words by its commas.
func wordsOf(text string) []string {
	if text == "" {
		return nil
	}
	return strings.Split(text, ",")
}

// P1: whatever comes, the calls end, and they answer by the chapter's words.
func FuzzEveryCallEnds(f *testing.F) {
	f.Add("0,,10,110", []byte{2, 1, 0, 2}, []byte{0x5b, 0x80}, 3)
	f.Add("0,0x", []byte{1, 1, 1}, []byte{}, -1)
	f.Add("01,0", []byte{31, 255}, []byte{255}, math.MaxInt)
	f.Fuzz(func(t *testing.T, text string, lengths, data []byte, at int) {
		words := wordsOf(text[:min(len(text), 300)])
		data = data[:min(len(data), 30)]
		checkNew(t, words)
		if bookError(words) == api.OK {
			b := bookOf(t, words)
			for _, low := range orders {
				r := bits.NewReader(data, low)
				for b.Len() > 0 && r.Left() > 0 {
					left := r.Left()
					if b.Read(r); r.Left() >= left {
						t.Fatal("nothing was read")
					}
				}
			}
			w := bits.NewWriter(false)
			word, err := b.Word(at)
			if writeErr := b.Write(w, at); (writeErr == api.OK) != (err == api.OK && word != "") || w.Len() != len(word) {
				t.Fatal(at, word, err, writeErr)
			}
			joined := strings.Join(words, "")
			checkRead(t, words, joined[:min(9, len(joined))])
		}
		var lens []int
		for _, c := range lengths[:min(len(lengths), 300)] {
			lens = append(lens, int(int8(c)))
		}
		checkCanon(t, lens)
		if made, _, err := Canon(lens); err == api.OK {
			checkWrittenIsRead(t, made, placesOf(made))
		}
	})
}
