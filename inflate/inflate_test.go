package inflate

import (
	"bytes"
	"cmp"
	"encoding/hex"
	"fmt"
	"math"
	"slices"
	"strings"
	"testing"

	"mezzotint/api"
)

// plenty is more bytes than the streams of most tests produce.
const plenty = 1 << 20

// lensOf and distsOf are the chapter's tables, written out.
var lensOf = []Base{
	{3, 0}, {4, 0}, {5, 0}, {6, 0}, {7, 0}, {8, 0}, {9, 0}, {10, 0},
	{11, 1}, {13, 1}, {15, 1}, {17, 1}, {19, 2}, {23, 2}, {27, 2}, {31, 2},
	{35, 3}, {43, 3}, {51, 3}, {59, 3}, {67, 4}, {83, 4}, {99, 4}, {115, 4},
	{131, 5}, {163, 5}, {195, 5}, {227, 5}, {258, 0},
}

var distsOf = []Base{
	{1, 0}, {2, 0}, {3, 0}, {4, 0}, {5, 1}, {7, 1}, {9, 2}, {13, 2}, {17, 3}, {25, 3},
	{33, 4}, {49, 4}, {65, 5}, {97, 5}, {129, 6}, {193, 6}, {257, 7}, {385, 7}, {513, 8}, {769, 8},
	{1025, 9}, {1537, 9}, {2049, 10}, {3073, 10}, {4097, 11}, {6145, 11}, {8193, 12}, {12289, 12}, {16385, 13}, {24577, 13},
}

var orderOf = []int{16, 17, 18, 0, 8, 7, 9, 6, 10, 5, 11, 4, 12, 3, 13, 2, 14, 1, 15}

// fixedOf is the fixed code lengths, by the chapter's numbers.
func fixedOf() (literals, distances []int) {
	for i := range 288 {
		switch {
		case i <= 143:
			literals = append(literals, 8)
		case i <= 255:
			literals = append(literals, 9)
		case i <= 279:
			literals = append(literals, 7)
		default:
			literals = append(literals, 8)
		}
	}
	return literals, []int{5, 5, 5, 5, 5, 5, 5, 5, 5, 5, 5, 5, 5, 5, 5, 5, 5, 5, 5, 5, 5, 5, 5, 5, 5, 5, 5, 5, 5, 5}
}

// textOf is the bits of bytes as a text of 0 and 1, the lowest bit of each first.
func textOf(b []byte) string {
	var s strings.Builder
	for _, c := range b {
		s.WriteString(num(int(c), 8))
	}
	return s.String()
}

// bytesOf is the bytes that have the bits of a text; the last one is filled up with 0 bits.
func bytesOf(text string) []byte {
	b := make([]byte, (len(text)+7)/8)
	for i := range len(text) {
		b[i/8] |= (text[i] - '0') << (i % 8)
	}
	return b
}

// num is an integer of n bits, the lowest one first.
func num(v, n int) string {
	s := make([]byte, n)
	for i := range s {
		s[i] = byte('0' + v>>i&1)
	}
	return string(s)
}

// canon is the canonical code words of lengths; false if there aren't so many,
// and whether the code is complete.
func canon(lens []int) (words []string, exists, complete bool) {
	var order []int
	share := 0.0
	for i, n := range lens {
		if n > 0 {
			order = append(order, i)
			share += math.Pow(0.5, float64(n))
		}
	}
	slices.SortStableFunc(order, func(a, b int) int { return cmp.Compare(lens[a], lens[b]) })
	words = make([]string, len(lens))
	code, last := 0, 0
	for k, i := range order {
		if k > 0 {
			code++
		}
		code <<= lens[i] - last
		last = lens[i]
		words[i] = fmt.Sprintf("%0*b", last, code)
	}
	return words, share <= 1, share == 1
}

// index is a code as a model reads it: of each code word its symbol, and -1 of
// each string with which one begins.
type index map[string]int

func indexOf(words []string) index {
	x := index{}
	for i, word := range words {
		for k := 1; k < len(word); k++ {
			x[word[:k]] = -1
		}
		if word != "" {
			x[word] = i
		}
	}
	return x
}

// fixedLiterals and fixedDistances are the fixed codes as a model reads them.
var fixedLiterals, fixedDistances = func() (index, index) {
	first, second := fixedOf()
	literals, _, _ := canon(first)
	distances, _, _ := canon(second)
	return indexOf(literals), indexOf(distances)
}()

// model reads blocks by the chapter's words, from a text of bits. It panics
// with the first error that it meets.
type model struct {
	text string
	at   int
	most int
	out  []byte
}

// inflated is what Inflate must answer.
func inflated(b []byte, most int) (out []byte, used int, err api.Errno) {
	if most < 0 {
		return nil, 0, api.ErrArg
	}
	defer func() {
		if met := recover(); met != nil {
			out, used, err = nil, 0, met.(api.Errno)
		}
	}()
	m := &model{text: textOf(b), most: most}
	for !m.block() {
	}
	return m.out, (m.at + 7) / 8, api.OK
}

func (m *model) must(holds bool, err api.Errno) {
	if !holds {
		panic(err)
	}
}

func (m *model) number(n int) int {
	m.must(m.at+n <= len(m.text), api.ErrCut)
	v := 0
	for i := range n {
		v += int(m.text[m.at+i]-'0') << i
	}
	m.at += n
	return v
}

func (m *model) symbol(x index) int {
	for k := 1; ; k++ {
		m.must(m.at+k <= len(m.text), api.ErrCut)
		i, ok := x[m.text[m.at:m.at+k]]
		m.must(ok, api.ErrCode)
		if i >= 0 {
			m.at += k
			return i
		}
	}
}

func (m *model) produce(c byte) {
	m.out = append(m.out, c)
	m.must(len(m.out) <= m.most, api.ErrLimit)
}

func (m *model) block() bool {
	last := m.number(1) == 1
	switch m.number(2) {
	case 0:
		m.at = (m.at + 7) / 8 * 8
		m.must(m.at+32 <= len(m.text), api.ErrCut)
		n := m.number(16)
		m.must(n+m.number(16) == 0xffff, api.ErrForm)
		for range n {
			m.produce(byte(m.number(8)))
		}
	case 1:
		m.coded(fixedLiterals, fixedDistances)
	case 2:
		m.coded(m.own())
	default:
		panic(api.ErrForm)
	}
	return last
}

func (m *model) own() (index, index) {
	m.must(m.at+14 <= len(m.text), api.ErrCut)
	literals, distances, count := m.number(5)+257, m.number(5)+1, m.number(4)+4
	m.must(literals <= 286 && distances <= 30, api.ErrForm)
	coded := make([]int, 19)
	for _, i := range orderOf[:count] {
		coded[i] = m.number(3)
	}
	words, _, complete := canon(coded)
	m.must(complete, api.ErrForm)
	lens := m.lengths(indexOf(words), literals+distances)
	m.must(lens[256] > 0, api.ErrForm)
	words, _, complete = canon(lens[:literals])
	m.must(complete, api.ErrForm)
	other, exists, complete := canon(lens[literals:])
	one := strings.Join(other, "") == "0"
	m.must(exists && (complete || one || strings.Join(other, "") == ""), api.ErrForm)
	return indexOf(words), indexOf(other)
}

func (m *model) lengths(x index, count int) []int {
	var lens []int
	for len(lens) < count {
		switch i := m.symbol(x); i {
		case 16:
			m.must(len(lens) > 0, api.ErrForm)
			lens = append(lens, slices.Repeat(lens[len(lens)-1:], 3+m.number(2))...)
		case 17:
			lens = append(lens, make([]int, 3+m.number(3))...)
		case 18:
			lens = append(lens, make([]int, 11+m.number(7))...)
		default:
			lens = append(lens, i)
		}
	}
	m.must(len(lens) == count, api.ErrForm)
	return lens
}

func (m *model) coded(literals, distances index) {
	for {
		i := m.symbol(literals)
		if i == 256 {
			return
		}
		if i < 256 {
			m.produce(byte(i))
			continue
		}
		m.must(i <= 285, api.ErrCode)
		length := lensOf[i-257].From + m.number(lensOf[i-257].Extra)
		j := m.symbol(distances)
		distance := distsOf[j].From + m.number(distsOf[j].Extra)
		m.must(distance <= len(m.out), api.ErrForm)
		for range length {
			m.produce(m.out[len(m.out)-distance])
		}
	}
}

// check holds Inflate against the model, and what it answers against what is
// worked out otherwise.
func check(t *testing.T, b []byte, most int, out []byte, used int, err api.Errno) {
	t.Helper()
	gotOut, gotUsed, gotErr := checkModel(t, b, most)
	if !bytes.Equal(gotOut, out) || gotUsed != used || gotErr != err {
		t.Fatalf("%x, most %d: %x, %d, error %d; want %x, %d, error %d", b, most, gotOut, gotUsed, gotErr, out, used, err)
	}
}

// checkModel holds Inflate against the model alone; what both answer comes back.
func checkModel(t *testing.T, b []byte, most int) ([]byte, int, api.Errno) {
	t.Helper()
	out, used, err := Inflate(b, most)
	wantOut, wantUsed, wantErr := inflated(b, most)
	if !bytes.Equal(out, wantOut) || used != wantUsed || err != wantErr {
		t.Fatalf("%x, most %d: %x, %d, error %d; the model has %x, %d, error %d", b, most, out, used, err, wantOut, wantUsed, wantErr)
	}
	return out, used, err
}

// ahead is blocks whose bits are r more than a multiple of 8, and what they
// produce: up to seven bytes.
func ahead(r int) (string, []byte) {
	literals, _ := fixedWords()
	n := (r + 6) % 8
	return "0" + "10" + strings.Repeat(literals[200], n) + literals[256], slices.Repeat([]byte{200}, n)
}

func fixedWords() (literals, distances []string) {
	first, second := fixedOf()
	literals, _, _ = canon(first)
	distances, _, _ = canon(second)
	return literals, distances
}

// checkPlain holds the text of a last block, from its first bit to its last
// one, against what it produces, at all places of a byte and with the smallest
// and a greater maximum; one less, and it is too much. Shorter pieces are cut,
// and what follows doesn't matter.
func checkPlain(t *testing.T, text string, out []byte) {
	t.Helper()
	for r := range 8 {
		before, made := ahead(r)
		want := append(made, out...)
		b := bytesOf(before + text)
		check(t, b, len(want), want, len(b), api.OK)
		check(t, b, plenty, want, len(b), api.OK)
		check(t, b, math.MaxInt, want, len(b), api.OK)
		for _, behind := range []string{"\x00", "\xff\xff", "\x03\x00", "junk"} {
			check(t, append(slices.Clone(b), behind...), len(want), want, len(b), api.OK)
		}
		if spare := 8*len(b) - len(before+text); spare > 0 {
			check(t, bytesOf(before+text+strings.Repeat("1", spare)), plenty, want, len(b), api.OK)
		}
		if len(want) > 0 {
			check(t, b, len(want)-1, nil, 0, api.ErrLimit)
		}
		checkCuts(t, b, plenty)
	}
}

// checkCuts holds shorter pieces of bytes to be cut: the longest ones, and some of the others.
func checkCuts(t *testing.T, b []byte, most int) {
	t.Helper()
	for k := len(b) - 1; k >= 0; k-- {
		if k >= len(b)-6 || k%(1+len(b)/10) == 0 {
			check(t, b[:k], most, nil, 0, api.ErrCut)
		}
	}
}

// checkError holds the text of a block, up to the bit with which an error is
// met, against this error, at all places of a byte: shorter pieces are cut
// instead, and what follows doesn't matter. The maximum leaves room
// for so many bytes.
func checkError(t *testing.T, text string, room int, err api.Errno) {
	t.Helper()
	for r := range 8 {
		before, made := ahead(r)
		b := bytesOf(before + text)
		most := len(made) + room
		check(t, b, most, nil, 0, err)
		check(t, append(slices.Clone(b), 0, 0, 0, 0, 0), most, nil, 0, err)
		check(t, append(slices.Clone(b), 255, 255, 255, 255, 255), most, nil, 0, err)
		spare := 8*len(b) - len(before+text)
		check(t, bytesOf(before+text+strings.Repeat("1", spare)), most, nil, 0, err)
		checkCuts(t, b, most)
	}
}

// token is api's: a byte, or a copy.
type token = api.Token

// tokensText is tokens in code words; those of a length or a distance that
// several symbols may say take the last of them.
func tokensText(tokens []token, literals, distances []string) string {
	var s strings.Builder
	for _, c := range tokens {
		if c.Len == 0 {
			s.WriteString(literals[c.Lit])
			continue
		}
		s.WriteString(symbolText(c.Len, lensOf, literals[257:]))
		s.WriteString(symbolText(c.Dist, distsOf, distances))
	}
	return s.String()
}

func symbolText(n int, bases []Base, words []string) string {
	i := len(bases) - 1
	for bases[i].From > n {
		i--
	}
	return words[i] + num(n-bases[i].From, bases[i].Extra)
}

// tokensBytes is what tokens produce.
func tokensBytes(tokens []token) []byte {
	var out []byte
	for _, c := range tokens {
		if c.Len == 0 {
			out = append(out, c.Lit)
		}
		for range c.Len {
			out = append(out, out[len(out)-c.Dist])
		}
	}
	return out
}

// bytesTokens is bytes as they are.
func bytesTokens(text string) []token {
	var tokens []token
	for i := range len(text) {
		tokens = append(tokens, token{Lit: text[i]})
	}
	return tokens
}

// fixedText is a last block of type 1.
func fixedText(tokens []token) string {
	literals, distances := fixedWords()
	return "1" + "10" + tokensText(tokens, literals, distances) + literals[256]
}

// coded is one word of the code length code, and the integer that follows 16, 17 and 18.
type coded struct{ symbol, more int }

// allCodes is the lengths of a code length code that has all symbols.
var allCodes = []int{4, 4, 4, 4, 4, 4, 4, 4, 4, 4, 4, 4, 4, 5, 5, 5, 5, 5, 5}

// headText is the beginning of a last block of type 2: how many code lengths
// there are, those of the code length code, and words of it.
func headText(literals, distances, count int, codes []int, words []coded) string {
	s := "1" + "01" + num(literals-257, 5) + num(distances-1, 5) + num(count-4, 4)
	for _, i := range orderOf[:count] {
		s += num(codes[i], 3)
	}
	return s + codedText(codes, words)
}

func codedText(codes []int, words []coded) string {
	code, _, _ := canon(codes)
	var s strings.Builder
	for _, c := range words {
		s.WriteString(code[c.symbol])
		s.WriteString(num(c.more, map[int]int{16: 2, 17: 3, 18: 7}[c.symbol]))
	}
	return s.String()
}

// oneByOne is lengths in words of the code length code, a word each.
func oneByOne(lens []int) []coded {
	var words []coded
	for _, n := range lens {
		words = append(words, coded{symbol: n})
	}
	return words
}

// packed is lengths in as few words as may be, or nearly so.
func packed(lens []int) []coded {
	var words []coded
	for i := 0; i < len(lens); {
		n := 1
		for i+n < len(lens) && lens[i+n] == lens[i] {
			n++
		}
		switch {
		case lens[i] == 0 && n >= 11:
			n = min(n, 138)
			words = append(words, coded{18, n - 11})
		case lens[i] == 0 && n >= 3:
			words = append(words, coded{17, n - 3})
		case i > 0 && lens[i-1] == lens[i] && n >= 3:
			n = min(n, 6)
			words = append(words, coded{16, n - 3})
		default:
			n = 1
			words = append(words, coded{symbol: lens[i]})
		}
		i += n
	}
	return words
}

// ownText is a last block of type 2 with its code lengths one by one.
func ownText(literals, distances []int, tokens []token) string {
	return ownHead(literals, distances) + ownTokens(literals, distances, tokens)
}

func ownHead(literals, distances []int) string {
	return headText(len(literals), len(distances), 19, allCodes, oneByOne(slices.Concat(literals, distances)))
}

func ownTokens(literals, distances []int, tokens []token) string {
	first, _, _ := canon(literals)
	second, _, _ := canon(distances)
	return tokensText(tokens, first, second) + first[256]
}

// lensWith is so many lengths, all 0 but some.
func lensWith(n int, lens map[int]int) []int {
	list := make([]int, n)
	for i, length := range lens {
		list[i] = length
	}
	return list
}

// dice makes numbers that follow no simple pattern, the same from the same start.
type dice uint32

func (d *dice) below(n int) int {
	*d = *d*1664525 + 1013904223
	return int(*d>>8) % n
}

// lens is the lengths of a complete code of symbols, none above a maximum, with
// one word of one bit if there is one symbol alone.
func (d *dice) lens(symbols []int, size, most int) []int {
	leaves := []int{1, 1}
	for len(leaves) < len(symbols) {
		if i := d.below(len(leaves)); leaves[i] < most {
			leaves[i]++
			leaves = append(leaves, leaves[i])
		}
	}
	list := make([]int, size)
	for i, symbol := range symbols {
		list[symbol] = leaves[i]
	}
	return list
}

// tokens is some tokens behind so many bytes.
func (d *dice) tokens(n, behind int) []token {
	var tokens []token
	for range n {
		if behind == 0 || d.below(3) > 0 {
			tokens = append(tokens, token{Lit: byte(d.below(256) >> d.below(8))})
			behind++
			continue
		}
		c := token{Len: 3 + d.below(256)>>d.below(8), Dist: 1 + d.below(min(behind, 32768))>>d.below(9)}
		tokens = append(tokens, c)
		behind += c.Len
	}
	return tokens
}

// used is the symbols of tokens, with that of the end, and a second one at least.
func used(tokens []token) (literals, distances []int) {
	literals = []int{256, 65}
	for _, c := range tokens {
		if c.Len == 0 {
			literals = append(literals, int(c.Lit))
			continue
		}
		literals = append(literals, 257+symbolOf(c.Len, lensOf))
		distances = append(distances, symbolOf(c.Dist, distsOf))
	}
	slices.Sort(literals)
	slices.Sort(distances)
	return slices.Compact(literals), slices.Compact(distances)
}

func symbolOf(n int, bases []Base) int {
	i := len(bases) - 1
	for bases[i].From > n {
		i--
	}
	return i
}

// own is a block of type 2 of tokens, with codes and words for its lengths as they fall.
func (d *dice) own(last bool, tokens []token) string {
	first, second := used(tokens)
	literals := d.lens(first, max(257, first[len(first)-1]+1+d.below(2)*d.below(3)), 15)
	literals = literals[:min(len(literals), 286)]
	distances := make([]int, 1+d.below(30))
	if len(second) > 0 {
		distances = d.lens(second, min(30, second[len(second)-1]+1+d.below(3)), 15)
	}
	all := slices.Concat(literals, distances)
	words := oneByOne(all)
	if d.below(4) > 0 {
		words = packed(all)
	}
	symbols := []int{0, 1}
	for _, c := range words {
		symbols = append(symbols, c.symbol)
	}
	slices.Sort(symbols)
	codes := d.lens(slices.Compact(symbols), 19, 7)
	count := 19
	for count > 4 && codes[orderOf[count-1]] == 0 && d.below(8) > 0 {
		count--
	}
	text := headText(len(literals), len(distances), count, codes, words) + ownTokens(literals, distances, tokens)
	return num(btoi(last), 1) + text[1:]
}

func btoi(b bool) int {
	if b {
		return 1
	}
	return 0
}

// stored adds a block of type 0 to a text; the bits that are skipped are all the same.
func stored(text string, last bool, skipped string, data []byte) string {
	text += num(btoi(last), 1) + "00"
	text += strings.Repeat(skipped, (8-len(text)%8)%8)
	return text + num(len(data), 16) + num(65535-len(data), 16) + textOf(data)
}

// stream is some blocks of all types, and what they produce.
func (d *dice) stream(blocks, most int) (string, []byte) {
	text := ""
	var all []token
	for i := range blocks {
		last := i == blocks-1
		tokens := d.tokens(d.below(most), len(tokensBytes(all)))
		switch d.below(4) {
		case 0:
			data := make([]byte, d.below(most))
			for i := range data {
				data[i] = byte(d.below(256))
			}
			text = stored(text, last, num(d.below(2), 1), data)
			tokens = bytesTokens(string(data))
		case 1:
			text += num(btoi(last), 1) + fixedText(tokens)[1:]
		default:
			text += d.own(last, tokens)
		}
		all = append(all, tokens...)
	}
	return text, tokensBytes(all)
}

// P8.1
func TestTables(t *testing.T) {
	if got := Lens(); !slices.Equal(got, lensOf) || len(got) != 29 {
		t.Error(got)
	}
	if got := Dists(); !slices.Equal(got, distsOf) || len(got) != 30 {
		t.Error(got)
	}
	if got := Order(); !slices.Equal(got, orderOf) || len(got) != 19 {
		t.Error(got)
	}
	literals, distances := Fixed()
	wantLiterals, wantDistances := fixedOf()
	if !slices.Equal(literals, wantLiterals) || len(literals) != 288 {
		t.Error(literals)
	}
	if !slices.Equal(distances, wantDistances) || len(distances) != 30 {
		t.Error(distances)
	}
}

// P8.1: each base is the first value that the symbol before it can't reach.
func TestBasesFollowEachOther(t *testing.T) {
	for _, list := range [][]Base{Lens()[:28], Dists()} {
		for i, b := range list[1:] {
			if before := list[i]; b.From != before.From+1<<before.Extra {
				t.Errorf("%v behind %v", b, before)
			}
		}
	}
}

// P8.1, P2: results share no memory, with each other or with what Inflate reads by.
func TestTablesAreTheCallersOwn(t *testing.T) {
	for range 2 {
		clear(Lens()[:cap(Lens())])
		clear(Dists())
		clear(Order())
		literals, distances := Fixed()
		clear(literals[:cap(literals)])
		clear(distances[:cap(distances)])
		TestTables(t)
		TestStreamsOfAnotherEncoder(t)
	}
}

// P8.2: the chapter's examples, and DOC.md's.
func TestTheDocumentsExamples(t *testing.T) {
	check(t, []byte{3, 0}, 0, nil, 2, api.OK)
	check(t, []byte{1, 1, 0, 254, 255, 97}, 1, []byte("a"), 6, api.OK)
}

// P8.2: what comes of zlib's own encoder.
func TestStreamsOfAnotherEncoder(t *testing.T) {
	for _, c := range []struct{ data, want string }{
		{"0b482d492d5208c82c00920599c9d9a9290a890a05a9c9d90af96960811ca048416a0150bed81ab794420086397a00",
			"Peter Piper picked a peck of pickled peppers; a peck of pickled peppers Peter Piper picked."},
		{"e5cbc91100200803c05ac320f10832f4ffb110f7bf98ba62c7dac4aeee8c0b430e5525cb63988c33ecb43bd2970ef16b79",
			strings.Repeat("ahlnlgqfijgajoqqmfnabameloomgodfeblbghfbkqddamdilkg", 6)[:300]},
		{"63601805a360140c770000", strings.Repeat("\x00", 1000)},
		{"4b4c4a4e1c45c42100", strings.Repeat("abc", 100)},
		{"ca48cdc9c957c8009300000000ffff432201", "hello hello hello hello"},
	} {
		b, err := hex.DecodeString(c.data)
		if err != nil {
			t.Fatal(err)
		}
		check(t, b, len(c.want), []byte(c.want), len(b), api.OK)
		check(t, b, len(c.want)-1, nil, 0, api.ErrLimit)
		checkCuts(t, b, plenty)
	}
}

// P8.2: a wrong maximum, whatever the bytes are.
func TestNegativeMost(t *testing.T) {
	for _, b := range [][]byte{nil, {}, {3, 0}, {7}, {1, 1, 0, 254, 255, 97}} {
		for _, most := range []int{-1, -2, math.MinInt32, math.MinInt} {
			check(t, b, most, nil, 0, api.ErrArg)
		}
	}
}

// P8.2: no bytes, and no whole head of a block.
func TestCutHeads(t *testing.T) {
	check(t, nil, 0, nil, 0, api.ErrCut)
	check(t, []byte{}, plenty, nil, 0, api.ErrCut)
	whole, _ := ahead(0)
	check(t, bytesOf(whole), plenty, nil, 0, api.ErrCut)
	for r := 6; r < 8; r++ { // one bit or two of a head are there
		before, _ := ahead(r)
		for _, few := range []string{"00", "11", "01", "10"} {
			check(t, bytesOf(before+few[:8-r]), plenty, nil, 0, api.ErrCut)
		}
	}
}

// P8.2: blocks of type 0.
func TestStored(t *testing.T) {
	long := make([]byte, 65535)
	var d dice
	for i := range long {
		long[i] = byte(d.below(256))
	}
	for _, data := range [][]byte{nil, {0}, {97}, {255, 0, 255}, []byte("blocks of type 0"), long[:255], long[:256], long[:257], long[:4096], long} {
		checkPlainFrom(t, data)
	}
}

// checkPlainFrom does what checkPlain does, of a block of type 0, whose bits
// are other ones at each place of a byte.
func checkPlainFrom(t *testing.T, data []byte) {
	t.Helper()
	for r := range 8 {
		before, made := ahead(r)
		want := append(made, data...)
		for _, skipped := range []string{"0", "1"} {
			b := bytesOf(stored(before, true, skipped, data))
			check(t, append(slices.Clone(b), 9), len(want), want, len(b), api.OK)
			if len(want) > 0 {
				check(t, b, len(want)-1, nil, 0, api.ErrLimit)
			}
			if len(data) < 5000 {
				checkCuts(t, b, plenty)
			}
		}
	}
}

// P8.2: the complement, wrong in each bit; it is looked at as soon as both integers are there.
func TestStoredComplement(t *testing.T) {
	for _, n := range []int{0, 1, 2, 255, 256, 0x1234, 0xffff} {
		for bit := range 16 {
			head := []byte{1, byte(n), byte(n >> 8), byte(^n), byte(^n >> 8)}
			head[3+bit/8] ^= 1 << (bit % 8)
			check(t, head, plenty, nil, 0, api.ErrForm)
			check(t, append(head, make([]byte, n)...), plenty, nil, 0, api.ErrForm)
			for k := range head {
				check(t, head[:k], plenty, nil, 0, api.ErrCut)
			}
		}
	}
	check(t, []byte{1, 1, 0, 1, 0, 97}, plenty, nil, 0, api.ErrForm)
	check(t, []byte{1, 0, 0, 0, 0}, plenty, nil, 0, api.ErrForm)
}

// P8.2: of a block of type 0 the bytes come one by one: too many of them are
// met ahead of those that are missing.
func TestStoredCutOrTooMuch(t *testing.T) {
	whole := bytesOf(stored("", true, "0", []byte("0123456789")))
	for k := range 11 {
		for most := range 12 {
			want := api.ErrCut
			if most < k {
				want = api.ErrLimit
			}
			if k == 10 && most >= 10 {
				check(t, whole, most, []byte("0123456789"), 15, api.OK)
				continue
			}
			check(t, whole[:5+k], most, nil, 0, want)
		}
	}
}

// P8.2
func TestBlocksOfType3(t *testing.T) {
	checkError(t, "0"+"11", 0, api.ErrForm)
	checkError(t, "1"+"11", 0, api.ErrForm)
	check(t, []byte{7}, 0, nil, 0, api.ErrForm)
	check(t, []byte{6}, plenty, nil, 0, api.ErrForm)
	check(t, []byte{3, 0, 7}, plenty, nil, 2, api.OK)
}

// P8.2: each literal byte of the fixed code, alone and with others.
func TestFixedLiterals(t *testing.T) {
	var all []token
	for c := range 256 {
		one := token{Lit: byte(c)}
		check(t, bytesOf(fixedText([]token{one})), 1, []byte{byte(c)}, 3, api.OK)
		all = append(all, one, token{Lit: byte(255 - c)})
	}
	checkPlain(t, fixedText(nil), nil)
	checkPlain(t, fixedText(all[:17]), tokensBytes(all[:17]))
	checkPlain(t, fixedText(all), tokensBytes(all))
}

// P8.2: each length, with its symbol and all its bits, and 258 with either symbol.
func TestEveryLength(t *testing.T) {
	literals, distances := fixedWords()
	for i, base := range lensOf {
		for more := range 1 << base.Extra {
			n := base.From + more
			text := "1" + "10" + literals[7] + literals[9] + literals[257+i] + num(more, base.Extra) + distances[1] + literals[256]
			b := bytesOf(text)
			want := bytes.Repeat([]byte{7, 9}, 130)[:2+n]
			check(t, b, 2+n, want, len(b), api.OK)
			check(t, b, 1+n, nil, 0, api.ErrLimit)
		}
	}
}

// P8.2: each distance symbol with its least bits, its greatest ones, and some
// between; one byte less ahead of it, and it reaches too far.
func TestEveryDistance(t *testing.T) {
	literals, distances := fixedWords()
	data := make([]byte, 40000)
	var d dice
	for i := range data {
		data[i] = byte(d.below(256))
	}
	for j, base := range distsOf {
		for _, more := range []int{0, 1<<base.Extra - 1, d.below(1 << base.Extra), d.below(1 << base.Extra)} {
			n := base.From + more
			text := "1" + "10" + literals[259] + distances[j] + num(more, base.Extra) + literals[256]
			for _, length := range []int{n, n + 1, 40000} {
				b := bytesOf(stored("", false, "0", data[:length]) + text)
				want := slices.Clone(data[:length])
				for range 5 {
					want = append(want, want[len(want)-n])
				}
				check(t, b, length+5, want, len(b), api.OK)
			}
			check(t, bytesOf(stored("", false, "0", data[:n-1])+text), plenty, nil, 0, api.ErrForm)
		}
	}
}

// P8.2: copies of bytes that the copy itself produces.
func TestOverlappingCopies(t *testing.T) {
	start := bytesTokens("abcdefg")
	for distance := 1; distance <= 7; distance++ {
		for _, length := range []int{3, 4, 6, 7, 8, 13, 100, 258} {
			tokens := append(slices.Clone(start), token{Len: length, Dist: distance}, token{Lit: 'x'}, token{Len: 5, Dist: 3})
			want := []byte("abcdefg")
			want = append(want, bytes.Repeat(want[7-distance:], 300)[:length]...)
			want = append(want, 'x')
			for range 5 {
				want = append(want, want[len(want)-3])
			}
			b := bytesOf(fixedText(tokens))
			check(t, b, len(want), want, len(b), api.OK)
		}
	}
	checkPlain(t, fixedText([]token{{Lit: 'a'}, {Len: 9, Dist: 1}}), []byte("aaaaaaaaaa"))
	checkPlain(t, fixedText(append(start, token{Len: 20, Dist: 3}, token{Len: 258, Dist: 27})), tokensBytes(append(start, token{Len: 20, Dist: 3}, token{Len: 258, Dist: 27})))
}

// P8.2: the symbols that the fixed codes have, or could have, for nothing.
func TestFixedSymbolsForNothing(t *testing.T) {
	literals, distances := fixedWords()
	for _, i := range []int{286, 287} {
		checkError(t, "1"+"10"+literals[i], 0, api.ErrCode)
		checkError(t, "0"+"10"+literals[7]+literals[i], 1, api.ErrCode)
	}
	for _, i := range []int{257, 264, 285} { // 30 and 31 would be 11110 and 11111: no word begins so
		checkError(t, "1"+"10"+literals[i]+"1111", 0, api.ErrCode)
	}
	checkError(t, "1"+"10"+literals[284]+"01011"+"1111", 0, api.ErrCode)
	if distances[29] != "11101" {
		t.Error(distances[29])
	}
}

// P8.2: distances beyond the beginning of the output, which are met with their
// last bit, and ahead of the maximum.
func TestTooFarBack(t *testing.T) {
	literals, distances := fixedWords()
	for j, base := range distsOf {
		if base.From <= 7 { // ahead's own bytes
			continue
		}
		for _, more := range []string{strings.Repeat("0", base.Extra), strings.Repeat("1", base.Extra)} {
			for _, room := range []int{0, 3, plenty} {
				checkError(t, "1"+"10"+literals[257]+distances[j]+more, room, api.ErrForm)
			}
			checkError(t, "0"+"10"+literals[285]+distances[j]+more, 0, api.ErrForm)
		}
	}
	check(t, bytesOf("1"+"10"+literals[257]+distances[0]), plenty, nil, 0, api.ErrForm)
	check(t, bytesOf("1"+"10"+literals[257]+distances[0]), 0, nil, 0, api.ErrForm)
	check(t, bytesOf("1"+"10"+literals[0]+literals[257]+distances[1]), 1, nil, 0, api.ErrForm)
	check(t, bytesOf("1"+"10"+literals[0]+literals[257]+distances[0]), 1, nil, 0, api.ErrLimit)
	check(t, bytesOf("1"+"10"+literals[0]+literals[257]+distances[1]), 0, nil, 0, api.ErrLimit)
}

// P8.2: one byte too many is met with the last bit of what produces it.
func TestTooMuch(t *testing.T) {
	literals, distances := fixedWords()
	checkError(t, "1"+"10"+literals[5], 0, api.ErrLimit)
	checkError(t, "1"+"10"+literals[5]+literals[255], 1, api.ErrLimit)
	for room := 1; room < 4; room++ {
		checkError(t, "1"+"10"+literals[5]+literals[257]+distances[0], room, api.ErrLimit)
	}
	checkError(t, "1"+"10"+literals[5]+literals[284]+"11111"+distances[0], 258, api.ErrLimit)
	checkError(t, "1"+"10"+literals[5]+literals[6]+literals[7]+literals[8]+literals[9]+literals[285]+distances[4]+"0", 262, api.ErrLimit)
	check(t, bytesOf(fixedText(nil)), 0, nil, 2, api.OK)
	check(t, bytesOf(stored("", true, "1", nil)), 0, nil, 5, api.OK)
}

// P8.2: how many code lengths there may be; it is met when all three integers are there.
func TestNumbersOfCodeLengths(t *testing.T) {
	for literals := 257; literals <= 288; literals++ {
		for distances := 1; distances <= 32; distances++ {
			if literals <= 286 && distances <= 30 {
				continue
			}
			if (literals+distances)%7 > 1 && literals+distances < 318 {
				continue
			}
			for _, count := range []int{4, 11, 19} {
				text := "1" + "01" + num(literals-257, 5) + num(distances-1, 5) + num(count-4, 4)
				checkError(t, text, 0, api.ErrForm)
			}
		}
	}
	for _, literals := range []int{257, 258, 285, 286} {
		for _, distances := range []int{1, 2, 29, 30} {
			lens := lensWith(literals, map[int]int{'a': 1, 256: 1})
			b := bytesOf(ownText(lens, make([]int, distances), bytesTokens("aa")))
			check(t, b, 2, []byte("aa"), len(b), api.OK)
		}
	}
}

// P8.2: code length codes that may not be, which is met with their last bit.
func TestWrongCodeLengthCodes(t *testing.T) {
	for _, c := range []map[int]int{
		// Not complete, even if it has no code word, or a single one of one bit.
		{}, {0: 1}, {18: 1}, {0: 7}, {0: 1, 8: 2}, {16: 2, 17: 2, 18: 2},
		{0: 1, 8: 2, 18: 3}, {0: 1, 8: 2, 17: 3, 18: 4}, {0: 1, 16: 2, 17: 3, 18: 4, 8: 5},
		// Can't exist.
		{0: 1, 17: 1, 18: 1}, {16: 1, 17: 1, 18: 7}, {0: 1, 16: 2, 17: 2, 18: 7}, {0: 2, 16: 2, 17: 2, 18: 2, 8: 7},
		{0: 1, 16: 1, 17: 1, 18: 1, 8: 1}, {0: 7, 16: 1, 17: 2, 18: 3, 8: 3}, {0: 3, 7: 3, 8: 3, 9: 3, 16: 1, 10: 7},
	} {
		for _, count := range []int{4, 5, 9, 19} {
			codes := lensWith(19, c)
			kept := make([]int, 19)
			for _, i := range orderOf[:count] {
				kept[i] = codes[i]
			}
			if _, _, complete := canon(kept); complete {
				continue
			}
			checkError(t, headText(257, 1, count, codes, nil), 0, api.ErrForm)
		}
	}
	for i := range allCodes { // one length of a complete code is another one
		for n := range 8 {
			codes := slices.Clone(allCodes)
			if codes[i] != n {
				codes[i] = n
				check(t, bytesOf(headText(257, 1, 19, codes, nil)), 0, nil, 0, api.ErrForm)
			}
		}
	}
}

// P8.2: the code length code's lengths stand in the order of the chapter, and
// the remaining ones are 0.
func TestCountsOfCodeLengthCodes(t *testing.T) {
	lens := lensWith(257, map[int]int{'a': 1, 256: 1})
	for _, c := range []struct {
		count int
		codes map[int]int
	}{
		{18, map[int]int{0: 1, 1: 1}}, {19, map[int]int{0: 1, 1: 1}},
		{18, map[int]int{0: 1, 1: 2, 18: 2}}, {18, map[int]int{0: 2, 1: 2, 17: 2, 18: 2}},
		{19, map[int]int{0: 1, 1: 2, 18: 3, 15: 3}}, {18, map[int]int{0: 1, 1: 2, 14: 3, 2: 3}},
	} {
		for _, words := range [][]coded{oneByOne(append(lens, 0)), packed(append(lens, 0))} {
			codes := lensWith(19, c.codes)
			if slices.ContainsFunc(words, func(w coded) bool { return codes[w.symbol] == 0 }) {
				continue
			}
			text := headText(257, 1, c.count, codes, words)
			checkPlain(t, text+ownTokens(lens, nil, bytesTokens("aaa")), []byte("aaa"))
		}
	}
	// Four lengths are those of 16, 17, 18 and 0: no code has a length then.
	none := headText(257, 1, 4, lensWith(19, map[int]int{0: 1, 18: 1}), []coded{{18, 127}, {18, 109}})
	checkError(t, none, 0, api.ErrForm)
	// With five, 8 has one: 256 of length 8.
	eight := slices.Repeat([]int{8}, 256)
	five := headText(257, 1, 5, lensWith(19, map[int]int{0: 2, 8: 1, 16: 2}), append(oneByOne([]int{0}), oneByOne(append(eight, 0))...))
	checkPlain(t, five+ownTokens(append([]int{0}, eight...), nil, bytesTokens("\x01\xff")), []byte{1, 255})
}

// P8.2: repeated lengths, as often as may be, and across the two codes.
func TestRepeatedLengths(t *testing.T) {
	lens := append(slices.Repeat([]int{8}, 255), 9, 9) // 257 literal/length codes
	for _, c := range []struct {
		distances []int
		words     []coded
	}{
		{[]int{0}, append(slices.Concat([]coded{{symbol: 8}}, slices.Repeat([]coded{{16, 3}}, 42), []coded{{8, 0}, {8, 0}}), oneByOne([]int{9, 9, 0})...)},
		{[]int{0}, append(slices.Concat([]coded{{symbol: 8}}, slices.Repeat([]coded{{16, 0}}, 84), []coded{{8, 0}, {8, 0}}), oneByOne([]int{9, 9, 0})...)},
	} {
		text := headText(257, len(c.distances), 19, allCodes, c.words)
		checkPlain(t, text+ownTokens(lens, c.distances, bytesTokens("ab\xff")), []byte("ab\xff"))
	}
	// A 16 repeats the last literal/length code length among the distances, and an 18 goes across.
	two := lensWith(259, map[int]int{'a': 2, 256: 2, 257: 2, 258: 2})
	four := []int{2, 2, 2, 2}
	words := append(oneByOne(two), coded{16, 1})
	text := headText(259, 4, 19, allCodes, words)
	tokens := []token{{Lit: 'a'}, {Len: 3, Dist: 1}, {Len: 4, Dist: 4}}
	checkPlain(t, text+ownTokens(two, four, tokens), tokensBytes(tokens))
	crossing := lensWith(286, map[int]int{'a': 1, 256: 1})
	for _, words := range [][]coded{
		{{18, 97 - 11}, {1, 0}, {18, 138 - 11}, {18, 20 - 11}, {1, 0}, {18, 49 - 11}},
		{{18, 97 - 11}, {1, 0}, {18, 138 - 11}, {18, 20 - 11}, {1, 0}, {17, 10 - 3}, {17, 10 - 3}, {18, 29 - 11}},
		{{18, 97 - 11}, {1, 0}, {18, 138 - 11}, {18, 20 - 11}, {1, 0}, {17, 0}, {16, 3}, {16, 3}, {16, 3}, {17, 10 - 3}, {18, 18 - 11}},
	} {
		text := headText(286, 20, 19, allCodes, words)
		checkPlain(t, text+ownTokens(crossing, nil, bytesTokens("aa")), []byte("aa"))
	}
}

// P8.2: a 16 before the first length, which is met ahead of its integer.
func TestNothingToRepeat(t *testing.T) {
	checkError(t, headText(257, 1, 19, allCodes, nil)+codedText(allCodes, []coded{{16, 0}})[:5], 0, api.ErrForm)
	checkError(t, headText(286, 30, 4, lensWith(19, map[int]int{16: 1, 0: 1}), nil)+"1", 0, api.ErrForm)
	text := headText(257, 1, 19, allCodes, []coded{{0, 0}, {16, 3}})
	check(t, bytesOf(text), plenty, nil, 0, api.ErrCut)
}

// P8.2: more lengths than there should be, which is met with the last bit of a repetition.
func TestTooManyLengths(t *testing.T) {
	for _, c := range []struct {
		literals, distances, before int
		word                        coded
	}{
		{257, 1, 257, coded{16, 0}},
		{257, 1, 257, coded{17, 0}},
		{257, 1, 257, coded{18, 0}},
		{257, 1, 256, coded{16, 0}},
		{257, 1, 255, coded{16, 1}},
		{257, 1, 253, coded{16, 3}},
		{257, 1, 253, coded{17, 3}},
		{257, 1, 248, coded{18, 0}},
		{257, 1, 121, coded{18, 127}},
		{286, 30, 315, coded{17, 7}},
		{286, 30, 311, coded{16, 3}},
		{286, 30, 306, coded{18, 0}},
	} {
		lens := lensWith(max(c.before, 257), map[int]int{'a': 1, 256: 1})[:c.before]
		checkError(t, headText(c.literals, c.distances, 19, allCodes, append(oneByOne(lens), c.word)), 0, api.ErrForm)
	}
	// A last repetition that fits ends the lengths: 256 has a code word here.
	fits := headText(257, 3, 19, allCodes, append(oneByOne(lensWith(257, map[int]int{'a': 1, 256: 1})), coded{17, 0}))
	checkPlain(t, fits+"1", nil)
	over := headText(257, 2, 19, allCodes, append(oneByOne(lensWith(257, map[int]int{'a': 1, 256: 1})), coded{17, 0}))
	checkError(t, over, 0, api.ErrForm)
}

// P8.2: literal/length codes that may not be. All lengths are read ahead of it.
func TestWrongLiteralCodes(t *testing.T) {
	deep := map[int]int{256: 15}
	for i := range 15 {
		deep[i] = i + 1
	}
	short := map[int]int{256: 15}
	for i := range 14 {
		short[i] = i + 2
	}
	for _, c := range []map[int]int{
		// No code word of 256.
		{}, {0: 1, 1: 1}, {0: 1, 255: 1}, {255: 1, 257: 1},
		// Not complete, even if it has a single code word of one bit.
		{256: 1}, {256: 15}, {256: 2, 0: 1}, {256: 2, 0: 2, 1: 2}, {256: 15, 0: 1, 1: 2}, short,
		// Can't exist.
		{256: 1, 0: 1, 1: 1}, {256: 1, 0: 1, 1: 15}, {256: 15, 0: 1, 1: 1}, {256: 2, 0: 2, 1: 2, 2: 2, 257: 2},
	} {
		for _, distances := range [][]int{{0}, {1}, {1, 1}, {1, 1, 1}} {
			checkError(t, ownHead(lensWith(258, c), distances), 0, api.ErrForm)
		}
	}
	b := bytesOf(ownText(lensWith(257, deep), []int{0}, bytesTokens("\x00\x0e\x07")))
	check(t, b, 3, []byte{0, 14, 7}, len(b), api.OK)
	for i := range 15 {
		for n := range 16 {
			other := lensWith(257, deep)
			if other[i] != n {
				other[i] = n
				check(t, bytesOf(ownHead(other, []int{0})), 0, nil, 0, api.ErrForm)
			}
		}
	}
	for _, long := range [][]int{slices.Repeat([]int{1}, 257), slices.Repeat([]int{15}, 286), slices.Repeat([]int{8}, 257), append(make([]int, 256), 8)} {
		check(t, bytesOf(ownHead(long, []int{0})), 0, nil, 0, api.ErrForm)
	}
}

// P8.2: distance codes that may not be.
func TestWrongDistanceCodes(t *testing.T) {
	literals := lensWith(258, map[int]int{'a': 2, 'b': 2, 256: 2, 257: 2})
	for _, distances := range [][]int{
		// A single code word, not of one bit.
		{2}, {15}, {0, 2}, {0, 0, 15}, {3, 0, 0},
		// Not complete: like the fixed one, which may be so.
		slices.Repeat([]int{5}, 30), slices.Repeat([]int{4}, 15),
		{1, 2}, {2, 1}, {2, 2}, {2, 2, 2}, {15, 15}, {1, 2, 3, 4}, {1, 0, 15},
		// Can't exist.
		slices.Repeat([]int{4}, 30), slices.Repeat([]int{1}, 30),
		{1, 1, 1}, {1, 1, 15}, {1, 2, 2, 2}, {2, 2, 2, 2, 2}, {15, 1, 1},
	} {
		checkError(t, ownHead(literals, distances), 0, api.ErrForm)
	}
	for _, distances := range [][]int{
		{0}, {0, 0, 0}, make([]int, 30), {1}, {0, 1}, {1, 0}, lensWith(30, map[int]int{29: 1}),
		{1, 1}, {0, 1, 0, 1}, {1, 2, 2}, {2, 2, 2, 2}, {15, 1, 2, 3, 4, 5, 6, 7, 8, 9, 10, 11, 12, 13, 14, 15}, slices.Repeat([]int{4}, 16),
	} {
		checkPlain(t, ownText(literals, distances, bytesTokens("ab")), []byte("ab"))
	}
}

// P8.2: a distance code with a single code word, of one bit, or with none.
func TestSmallDistanceCodes(t *testing.T) {
	literals := lensWith(258, map[int]int{'a': 2, 'b': 2, 256: 2, 257: 2})
	words, _, _ := canon(literals)
	start := words['a'] + words['b'] + words[257]
	want := []byte("ab")
	for j, distances := range [][]int{{1}, {0, 1}} {
		text := ownHead(literals, distances)
		want := append(slices.Clone(want), bytes.Repeat([]byte("ab")[1-j:], 3)[:3]...)
		checkPlain(t, text+start+"0"+words[256], want)
		checkError(t, text+start+"1", plenty, api.ErrCode)
		checkError(t, text+start+"1", 2, api.ErrCode)
	}
	for _, distances := range [][]int{{0}, {0, 0}, make([]int, 30)} {
		for _, bit := range []string{"0", "1"} {
			checkError(t, ownHead(literals, distances)+start+bit, plenty, api.ErrCode)
		}
	}
}

// P8.2: words of all lengths up to 15, in both codes.
func TestLongWords(t *testing.T) {
	literals := make([]int, 286)
	for i, symbol := range []int{'e', ' ', 't', 257, 'a', 260, 'o', 265, 256, 'n', 270, 'i', 284, 's', 285} {
		literals[symbol] = i + 1
	}
	literals['h'] = 15
	distances := []int{15, 14, 13, 12, 11, 10, 9, 8, 7, 6, 5, 4, 3, 2, 1, 15}
	tokens := append(bytesTokens("the stone is on a neat hinton note"),
		token{Len: 3, Dist: 1}, token{Len: 6, Dist: 33}, token{Len: 11, Dist: 4}, token{Len: 12, Dist: 5}, token{Len: 23, Dist: 64},
		token{Len: 24, Dist: 65}, token{Len: 257, Dist: 112}, token{Len: 258, Dist: 129}, token{Len: 227, Dist: 193}, token{Len: 3, Dist: 256})
	checkPlain(t, ownText(literals, distances, tokens), tokensBytes(tokens))
}

// P8.2: blocks one after the other; copies reach back into earlier ones.
func TestBlocksFollowEachOther(t *testing.T) {
	literals, distances := fixedWords()
	open := func(text string) string { return "0" + text[1:] }
	text := open(fixedText(bytesTokens("abc")))
	text = stored(text, false, "1", []byte("defgh"))
	text = stored(text, false, "1", nil)
	text += open(ownText(lensWith(258, map[int]int{'x': 2, 'y': 2, 256: 2, 257: 2}), lensWith(7, map[int]int{5: 1, 6: 1}), []token{{Lit: 'x'}, {Len: 3, Dist: 9}}))
	text += open(fixedText(nil)) + open(fixedText([]token{{Len: 12, Dist: 12}}))
	want := []byte("abcdefghxabcabcdefghxabc")
	text = stored(text, false, "0", []byte("!"))
	for _, c := range []struct{ last, want string }{
		{"1" + "10" + literals[256], "!"},
		{"1" + "10" + literals[257] + distances[9] + num(0, 3) + literals[256], "!abc"},
	} {
		b := bytesOf(text + c.last)
		all := append(slices.Clone(want), c.want...)
		check(t, b, len(all), all, len(b), api.OK)
		check(t, append(slices.Clone(b), b...), len(all), all, len(b), api.OK)
		check(t, b, len(all)-1, nil, 0, api.ErrLimit)
		checkCuts(t, b, len(all))
	}
	check(t, bytesOf(text+"1"+"10"+literals[257]+distances[9]+num(1, 3)), plenty, nil, 0, api.ErrForm)
	check(t, bytesOf(text), plenty, nil, 0, api.ErrCut)
	check(t, bytesOf(text+"1"+"11"), plenty, nil, 0, api.ErrForm)
}

// P8.2, P8.3: streams of all types of blocks, as they fall, at their ends.
func TestMixedStreams(t *testing.T) {
	for seed := range 400 {
		d := dice(seed)
		text, want := d.stream(1+d.below(5), 10+d.below(120))
		b := bytesOf(text)
		check(t, b, len(want), want, len(b), api.OK)
		check(t, append(slices.Clone(b), byte(d.below(256)), 3, 0), plenty, want, len(b), api.OK)
		if len(want) > 0 {
			check(t, b, d.below(len(want)), nil, 0, api.ErrLimit)
		}
		check(t, b[:len(b)-1], plenty, nil, 0, api.ErrCut)
		check(t, b[:d.below(len(b))], plenty, nil, 0, api.ErrCut)
	}
}

// P8.2: streams with some bits turned: a result, or one error.
func TestTurnedBits(t *testing.T) {
	met := map[api.Errno]int{}
	for seed := range 600 {
		d := dice(seed)
		text, want := d.stream(1+d.below(3), 20)
		whole := bytesOf(text)
		for range 20 {
			b := slices.Clone(whole)
			for range 1 + d.below(3) {
				b[d.below(min(len(b), 1+d.below(80)))] ^= 1 << d.below(8)
			}
			most := d.below(2*len(want) + 600)
			_, _, err := checkModel(t, b, most)
			met[err]++
		}
	}
	for _, err := range []api.Errno{api.OK, api.ErrCut, api.ErrForm, api.ErrCode, api.ErrLimit} {
		if met[err] < 20 {
			t.Errorf("error %d came %d times", err, met[err])
		}
	}
}

// P1, P8.2: all inputs of two bytes, alone and ahead of others.
func TestEveryTwoBytes(t *testing.T) {
	tails := []string{"", "\x00\x00\x00\x00", "\xff\xff\xff\xff\xff", "\x01\x00\xfe\xff\x05\x60\x42"}
	for n := range 1 << 16 {
		b := append([]byte{byte(n), byte(n >> 8)}, tails[n%len(tails)]...)
		checkModel(t, b, 40)
	}
	for n := range 256 {
		for _, tail := range tails {
			checkModel(t, append([]byte{byte(n)}, tail...), 40)
		}
	}
}

// P1: a great many blocks, and a great many bytes of a few ones.
func TestManyBlocks(t *testing.T) {
	empty := strings.Repeat("0"+"10"+"0000000", 4)
	b := bytes.Repeat(bytesOf(empty), 1<<18)
	if out, used, err := Inflate(append(b, 3, 0), 0); len(out) != 0 || used != len(b)+2 || err != api.OK {
		t.Error(len(out), used, err)
	}
	if out, used, err := Inflate(b, plenty); len(out) != 0 || used != 0 || err != api.ErrCut {
		t.Error(len(out), used, err)
	}
	// Copies of 258 bytes in two bits each.
	literals := lensWith(286, map[int]int{0: 2, 256: 2, 285: 1})
	words, _, _ := canon(literals)
	text := ownHead(literals, []int{1}) + words[0] + strings.Repeat(words[285]+"0", 50000)
	long := bytesOf(text + words[256])
	if out, used, err := Inflate(long, math.MaxInt); !bytes.Equal(out, make([]byte, 1+50000*258)) || used != len(long) || err != api.OK {
		t.Error(len(out), used, err)
	}
	if out, used, err := Inflate(long, 50000*258); len(out) != 0 || used != 0 || err != api.ErrLimit {
		t.Error(len(out), used, err)
	}
}

// The rule that arguments aren't changed, nor kept, nor read beyond their length; P2.
func TestArgumentsAreLeft(t *testing.T) {
	whole := bytesOf(fixedText(bytesTokens("left as it is")))
	kept := slices.Clone(whole)
	for k := range whole {
		check(t, whole[:k], plenty, nil, 0, api.ErrCut)
	}
	first, _, _ := Inflate(whole, plenty)
	if !bytes.Equal(whole, kept) {
		t.Error(whole)
	}
	second, _, _ := Inflate(whole, plenty)
	clear(whole)
	clear(first[:cap(first)])
	if string(second) != "left as it is" {
		t.Errorf("%q", second)
	}
	raw := bytesOf(stored("", true, "0", []byte("raw")))
	out, _, _ := Inflate(raw, 3)
	clear(raw)
	if string(out) != "raw" {
		t.Errorf("%q", out)
	}
}

// P1, P8.2: whatever comes, the call ends, and it answers by the chapter's words.
func FuzzEveryCallEnds(f *testing.F) {
	f.Add([]byte{3, 0}, 0)
	f.Add([]byte{1, 1, 0, 254, 255, 97}, -1)
	for seed := range 40 {
		d := dice(seed)
		text, want := d.stream(1+d.below(3), 40)
		f.Add(bytesOf(text), len(want))
	}
	f.Fuzz(func(t *testing.T, b []byte, most int) {
		checkModel(t, b[:min(len(b), 2000)], min(most, 50000))
	})
}
