package deflate

import (
	"bytes"
	"cmp"
	"fmt"
	"math"
	"slices"
	"strings"
	"testing"

	"mezzotint/api"
	"mezzotint/bits"
	"mezzotint/inflate"
	"mezzotint/limit"
	"mezzotint/lz"
)

// ways is all ways of telling bytes, by the chapter's numbers.
var ways = []int{0, 1, 2}

// base is from which number on a symbol counts, and how many bits more follow.
type base struct{ from, extra int }

// lensOf and distsOf are layer 8's tables, written out.
var lensOf = []base{
	{3, 0}, {4, 0}, {5, 0}, {6, 0}, {7, 0}, {8, 0}, {9, 0}, {10, 0},
	{11, 1}, {13, 1}, {15, 1}, {17, 1}, {19, 2}, {23, 2}, {27, 2}, {31, 2},
	{35, 3}, {43, 3}, {51, 3}, {59, 3}, {67, 4}, {83, 4}, {99, 4}, {115, 4},
	{131, 5}, {163, 5}, {195, 5}, {227, 5}, {258, 0},
}

var distsOf = []base{
	{1, 0}, {2, 0}, {3, 0}, {4, 0}, {5, 1}, {7, 1}, {9, 2}, {13, 2}, {17, 3}, {25, 3},
	{33, 4}, {49, 4}, {65, 5}, {97, 5}, {129, 6}, {193, 6}, {257, 7}, {385, 7}, {513, 8}, {769, 8},
	{1025, 9}, {1537, 9}, {2049, 10}, {3073, 10}, {4097, 11}, {6145, 11}, {8193, 12}, {12289, 12}, {16385, 13}, {24577, 13},
}

var orderOf = []int{16, 17, 18, 0, 8, 7, 9, 6, 10, 5, 11, 4, 12, 3, 13, 2, 14, 1, 15}

// fixedOf is layer 8's fixed code lengths.
func fixedOf() (literals, distances []int) {
	for i := range 288 {
		switch {
		case i <= 143:
			literals = append(literals, 8)
		case i <= 255:
			literals = append(literals, 9)
		case i <= 279:
			literals = append(literals, 7)
		default:
			literals = append(literals, 8)
		}
	}
	return literals, slices.Repeat([]int{5}, 30)
}

// canon is the canonical code words of lengths, and what share of all strings
// begins with one.
func canon(lens []int) (words []string, share float64) {
	var order []int
	for i, n := range lens {
		if n > 0 {
			order = append(order, i)
			share += math.Pow(0.5, float64(n))
		}
	}
	slices.SortStableFunc(order, func(a, b int) int { return cmp.Compare(lens[a], lens[b]) })
	words = make([]string, len(lens))
	code, last := 0, 0
	for k, i := range order {
		if k > 0 {
			code++
		}
		code <<= lens[i] - last
		last = lens[i]
		words[i] = fmt.Sprintf("%0*b", last, code)
	}
	return words, share
}

// index is the symbol of each code word.
type index map[string]int

// indexOf is the index of a code, which must be complete, or just exist.
func indexOf(lens []int, complete bool) index {
	words, share := canon(lens)
	if share > 1 || complete && share != 1 {
		panic(fmt.Sprint("no such code: ", lens))
	}
	x := index{}
	for i, word := range words {
		if word != "" {
			x[word] = i
		}
	}
	return x
}

// fixedLiterals and fixedDistances are the fixed codes.
var fixedLiterals, fixedDistances = func() (index, index) {
	first, second := fixedOf()
	return indexOf(first, true), indexOf(second, false)
}()

// block is what a reader tells of a block.
type block struct {
	kind    int
	last    bool
	size    int            // how many bytes it produces
	skipped string         // the bits that a block of type 0 skips
	lens    []int          // the code lengths of the two codes, one after the other
	symbols map[string]int // how often there was a length's symbol ("len 5"), or a distance's
}

// reader reads blocks by layer 8's words, bit by bit. It panics where they don't hold.
type reader struct {
	data   []byte
	at     int
	out    []byte
	blocks []block
}

// blocksOf reads all blocks, which must take all bytes.
func blocksOf(t *testing.T, data []byte) ([]block, []byte) {
	t.Helper()
	r := &reader{data: data}
	defer func() {
		if met := recover(); met != nil {
			t.Fatalf("block %d, bit %d of %d bytes: %v", len(r.blocks), r.at, len(data), met)
		}
	}()
	for !r.block() {
	}
	if (r.at+7)/8 != len(data) {
		t.Fatalf("the blocks take %d of %d bytes", (r.at+7)/8, len(data))
	}
	return r.blocks, r.out
}

func (r *reader) bit() byte {
	c := '0' + r.data[r.at/8]>>(r.at%8)&1
	r.at++
	return c
}

func (r *reader) number(n int) int {
	v := 0
	for i := range n {
		v += int(r.bit()-'0') << i
	}
	return v
}

func (r *reader) symbol(x index) int {
	var word []byte
	for len(word) < 16 {
		word = append(word, r.bit())
		if i, ok := x[string(word)]; ok {
			return i
		}
	}
	panic(fmt.Sprintf("no code word begins with %s", word))
}

func (r *reader) block() bool {
	ahead := len(r.out)
	x := block{last: r.number(1) == 1, kind: r.number(2), symbols: map[string]int{}}
	switch x.kind {
	case 0:
		for r.at%8 != 0 {
			x.skipped += string(r.bit())
		}
		n := r.number(16)
		if r.number(16) != 65535-n {
			panic("the second integer isn't the complement")
		}
		for range n {
			r.out = append(r.out, byte(r.number(8)))
		}
	case 1:
		r.coded(fixedLiterals, fixedDistances, x)
	case 2:
		literals, distances := r.own(&x)
		r.coded(literals, distances, x)
	default:
		panic("a block of type 3")
	}
	x.size = len(r.out) - ahead
	r.blocks = append(r.blocks, x)
	return x.last
}

// lengths reads the code lengths of a block's two codes.
func (r *reader) lengths() (literals, distances []int) {
	m, n, k := r.number(5)+257, r.number(5)+1, r.number(4)+4
	if m > 286 || n > 30 {
		panic("too many code lengths")
	}
	coded := make([]int, 19)
	for _, i := range orderOf[:k] {
		coded[i] = r.number(3)
	}
	words := indexOf(coded, true)
	var lens []int
	for len(lens) < m+n {
		switch i := r.symbol(words); i {
		case 16:
			lens = append(lens, slices.Repeat(lens[len(lens)-1:], 3+r.number(2))...)
		case 17:
			lens = append(lens, make([]int, 3+r.number(3))...)
		case 18:
			lens = append(lens, make([]int, 11+r.number(7))...)
		default:
			lens = append(lens, i)
		}
	}
	if len(lens) > m+n {
		panic("more code lengths than there should be")
	}
	return lens[:m], lens[m:]
}

func (r *reader) own(x *block) (index, index) {
	literals, distances := r.lengths()
	x.lens = slices.Concat(literals, distances)
	if literals[256] == 0 {
		panic("no code word ends the block")
	}
	_, share := canon(distances)
	one := slices.Max(distances) == 1 && share == 0.5
	return indexOf(literals, true), indexOf(distances, share != 0 && !one)
}

func (r *reader) coded(literals, distances index, x block) {
	for {
		i := r.symbol(literals)
		if i == 256 {
			return
		}
		if i < 256 {
			r.out = append(r.out, byte(i))
			continue
		}
		length := lensOf[i-257].from + r.number(lensOf[i-257].extra)
		j := r.symbol(distances)
		distance := distsOf[j].from + r.number(distsOf[j].extra)
		x.symbols[fmt.Sprint("len ", i)]++
		x.symbols[fmt.Sprint("dist ", j)]++
		for range length {
			r.out = append(r.out, r.out[len(r.out)-distance])
		}
	}
}

// check holds what Deflate answers against the chapter's words, and returns how
// many bytes it is, and its blocks.
func check(t *testing.T, data []byte, how int) (int, []block) {
	t.Helper()
	packed, err := Deflate(data, how)
	if err != api.OK {
		t.Fatalf("%d bytes, %d: error %d", len(data), how, err)
	}
	return len(packed), checkPacked(t, packed, data, how)
}

// checkPacked holds blocks against the chapter's words, and returns them.
func checkPacked(t *testing.T, packed, data []byte, how int) []block {
	t.Helper()
	blocks, out := blocksOf(t, packed)
	if !bytes.Equal(out, data) {
		t.Fatalf("%d bytes, %d: the blocks produce %d bytes, and not the same ones", len(data), how, len(out))
	}
	for i, x := range blocks {
		if x.kind != how || x.last != (i == len(blocks)-1) {
			t.Fatalf("%d bytes, %d: block %d of %d is %v", len(data), how, i, len(blocks), x)
		}
		if how == Stored {
			checkStored(t, x, len(data))
		}
	}
	checkInflate(t, packed, data, how)
	return blocks
}

// checkStored holds a block of type 0 against the chapter's words.
func checkStored(t *testing.T, x block, whole int) {
	t.Helper()
	switch {
	case !x.last && x.size != 65535:
		t.Fatalf("%d bytes: a block of %d bytes", whole, x.size)
	case x.last && x.size == 0 && whole != 0:
		t.Fatalf("%d bytes: a last block of no bytes", whole)
	case strings.Contains(x.skipped, "1"):
		t.Fatalf("%d bytes: the bits %s are skipped", whole, x.skipped)
	}
}

// checkInflate holds blocks against layer 8, which must take all of them,
// whatever follows.
func checkInflate(t *testing.T, packed, data []byte, how int) {
	t.Helper()
	for _, behind := range []string{"", "\x00", "\xff\xff"} {
		out, used, err := inflate.Inflate(append(slices.Clone(packed), behind...), len(data))
		if !bytes.Equal(out, data) || used != len(packed) || err != api.OK {
			t.Fatalf("%d bytes, %d: %d bytes of %d come out of %d bytes, error %d", len(data), how, len(out), used, len(packed), err)
		}
	}
	out, used, err := inflate.Inflate(packed[:len(packed)-1], len(data))
	if len(out) != 0 || used != 0 || err != api.ErrCut {
		t.Fatalf("%d bytes, %d: the last of %d bytes isn't needed", len(data), how, len(packed))
	}
}

// checkAll holds all ways against the chapter's words.
func checkAll(t *testing.T, data []byte) {
	t.Helper()
	for _, how := range ways {
		check(t, data, how)
	}
}

// dice throws numbers that follow no simple pattern, the same for the same seed.
type dice struct{ seed uint32 }

func (d *dice) below(n int) int {
	d.seed = d.seed*1664525 + 1013904223
	return int(uint64(d.seed) * uint64(n) >> 32)
}

// mixed is n bytes that follow no simple pattern. Few letters make many copies.
func mixed(n int, seed uint32, count int) []byte {
	d := dice{seed}
	data := make([]byte, n)
	for i := range data {
		data[i] = byte(d.below(count))
	}
	return data
}

// patchwork is n bytes or a few more, many of which are pieces of those ahead
// of them, at most so far back.
func patchwork(n int, seed uint32, count, far int) []byte {
	d := dice{seed}
	var data []byte
	for len(data) < n {
		data = append(data, mixed(1+d.below(20), seed+uint32(len(data)), count)...)
		dist := 1 + d.below(min(len(data), far))
		for range d.below(300) {
			data = append(data, data[len(data)-dist])
		}
	}
	return data
}

// eachString goes through all strings of letters, up to a length.
func eachString(letters []byte, most int, visit func([]byte)) {
	var grow func([]byte)
	grow = func(s []byte) {
		visit(s)
		if len(s) == most {
			return
		}
		for _, c := range letters {
			grow(append(slices.Clone(s), c))
		}
	}
	grow(nil)
}

// newEncoder is an encoder that has written nothing.
func newEncoder() *encoder {
	return &encoder{out: bits.NewWriter(true), lens: inflate.Lens(), dists: inflate.Dists()}
}

// checkTokens holds blocks of tokens, which stand for these bytes, against the
// chapter's words.
func checkTokens(t *testing.T, tokens []api.Token, how int) []block {
	t.Helper()
	data, err := lz.Expand(tokens, math.MaxInt)
	if err != api.OK {
		t.Fatalf("%d tokens: error %d", len(tokens), err)
	}
	e := newEncoder()
	if how == Fixed {
		e.fixed(tokens)
	} else {
		e.own(tokens)
	}
	packed, err := e.result()
	if err != api.OK {
		t.Fatalf("%d tokens, %d: error %d", len(tokens), how, err)
	}
	return checkPacked(t, packed, data, how)
}

// P10.1: the ways are 0, 1 and 2.
func TestNumbersOfWays(t *testing.T) {
	if Stored != 0 || Fixed != 1 || Own != 2 {
		t.Error(Stored, Fixed, Own)
	}
}

// P10.1, P10.2: the document's example, and others that are settled by the
// words: with Stored nothing is free.
func TestStoredBytes(t *testing.T) {
	long := mixed(65535+2, 3, 256)
	for _, c := range []struct{ data, want []byte }{
		{nil, []byte{1, 0, 0, 255, 255}},
		{[]byte{}, []byte{1, 0, 0, 255, 255}},
		{[]byte("a"), []byte{1, 1, 0, 254, 255, 'a'}},
		{[]byte{0, 255}, []byte{1, 2, 0, 253, 255, 0, 255}},
		{long[:258], slices.Concat([]byte{1, 2, 1, 253, 254}, long[:258])},
		{long[:65535], slices.Concat([]byte{1, 255, 255, 0, 0}, long[:65535])},
		{long, slices.Concat([]byte{0, 255, 255, 0, 0}, long[:65535], []byte{1, 2, 0, 253, 255}, long[65535:])},
	} {
		packed, err := Deflate(c.data, Stored)
		if !bytes.Equal(packed, c.want) || err != api.OK {
			t.Errorf("%d bytes: %d bytes, the first ones %v, error %d", len(c.data), len(packed), packed[:min(len(packed), 9)], err)
		}
	}
}

// P10.2: blocks of 65535 bytes, and a last one of at least one, unless there are none.
func TestStoredBlocks(t *testing.T) {
	data := mixed(4*65535+3, 5, 256)
	for _, n := range []int{0, 1, 2, 255, 256, 65534, 65535, 65536, 65537, 2*65535 - 1, 2 * 65535, 2*65535 + 1, 3 * 65535, 4 * 65535, 4*65535 + 3} {
		size, blocks := check(t, data[:n], Stored)
		want := max(1, (n+65534)/65535)
		if len(blocks) != want || size != n+5*want {
			t.Errorf("%d bytes: %d blocks, %d bytes", n, len(blocks), size)
		}
	}
}

// P10.1: no other way; with whatever bytes.
func TestOtherWays(t *testing.T) {
	for _, how := range []int{-1, 3, 4, 255, 256, 1 << 32, 1<<32 + 1, math.MinInt, math.MaxInt} {
		for _, data := range [][]byte{nil, {}, []byte("a"), make([]byte, 70000)} {
			if packed, err := Deflate(data, how); len(packed) != 0 || err != api.ErrArg {
				t.Errorf("%d bytes, %d: %d bytes, error %d", len(data), how, len(packed), err)
			}
		}
	}
}

// P10.1: no bytes, nil or not, in every way.
func TestNoBytes(t *testing.T) {
	for _, how := range ways {
		for _, data := range [][]byte{nil, {}, []byte("abc")[:0]} {
			_, blocks := check(t, data, how)
			for _, x := range blocks {
				if x.size != 0 {
					t.Errorf("%d: %v", how, blocks)
				}
			}
		}
	}
}

// P10.1, P10.3: texts as they come.
func TestTexts(t *testing.T) {
	for _, s := range []string{
		"a", "aa", "aaa", "aaaa", "ab", "abcabcabc", "abcdefghijklmnopqrstuvwxyz",
		"It was the best of times, it was the worst of times",
		strings.Repeat("hello, hello! ", 300),
		"\x00\x00\x00\x00\xff\xff\xff\xff", "\x8f\x90\x8f\x90",
	} {
		checkAll(t, []byte(s))
	}
}

// P10.1, P10.3: every byte alone, and those whose fixed words differ in length together.
func TestEveryByte(t *testing.T) {
	var all []byte
	for c := range 256 {
		checkAll(t, []byte{byte(c)})
		checkAll(t, []byte{byte(c), byte(c), byte(c), byte(c), 'x'})
		all = append(all, byte(c))
	}
	checkAll(t, all)
	slices.Reverse(all)
	checkAll(t, all)
}

// P10.1, P10.3: all short strings.
func TestShortStrings(t *testing.T) {
	eachString([]byte{0, 1}, 9, func(s []byte) { checkAll(t, s) })
	eachString([]byte{0, 143, 144, 255}, 5, func(s []byte) { checkAll(t, s) })
}

// checkEqual holds n equal bytes against the bounds of P10.2.
func checkEqual(t *testing.T, n int, c byte) {
	t.Helper()
	data := bytes.Repeat([]byte{c}, n)
	if size, _ := check(t, data, Fixed); size > 40+n/32 {
		t.Errorf("%d bytes %d: %d bytes with Fixed", n, c, size)
	}
	if size, _ := check(t, data, Own); size > 100+n/32 {
		t.Errorf("%d bytes %d: %d bytes with Own", n, c, size)
	}
}

// P10.2: equal bytes: few of them, those around the lengths of several copies, and many.
func TestEqualBytes(t *testing.T) {
	for n := 1; n <= 800; n++ {
		checkEqual(t, n, 'z')
	}
	for _, copies := range []int{4, 10, 127, 200, 254, 386, 387} {
		for more := range 8 {
			checkEqual(t, 258*copies+more-3, 255)
		}
	}
	for _, n := range []int{1000, 32767, 32768, 32769, 65535, 65536, 99999, 100000} {
		for _, c := range []byte{0, 143, 144, 255} {
			checkEqual(t, n, c)
		}
	}
}

// P10.2, P10.3: many more equal bytes too, for which nothing is promised beside P10.1.
func TestVeryManyEqualBytes(t *testing.T) {
	checkAll(t, make([]byte, 5<<20))
}

// P10.1, P10.3: copies of all lengths, and from all distances.
func TestEveryLengthAndDistance(t *testing.T) {
	start := mixed(32768, 7, 256)
	var tokens []api.Token
	for _, c := range start {
		tokens = append(tokens, api.Token{Lit: c})
	}
	for length := 3; length <= 258; length++ {
		tokens = append(tokens, api.Token{Len: length, Dist: 1 + length%7})
	}
	for dist := 1; dist <= 32768; dist++ {
		tokens = append(tokens, api.Token{Len: 3 + dist%9, Dist: dist}, api.Token{Lit: byte(dist)})
	}
	for _, how := range []int{Fixed, Own} {
		met := map[string]bool{}
		for _, x := range checkTokens(t, tokens, how) {
			for symbol := range x.symbols {
				met[symbol] = true
			}
		}
		if len(met) != len(lensOf)+len(distsOf) {
			t.Errorf("%d: %d symbols", how, len(met))
		}
	}
}

// P10.1: one length alone, from one distance alone; so the distance code has a
// single word, whichever symbol has it.
func TestOneCopy(t *testing.T) {
	start := mixed(32768, 11, 256)
	for i, b := range distsOf {
		far := b.from + 1<<b.extra - 1
		for _, dist := range []int{b.from, far} {
			var tokens []api.Token
			for _, c := range start[:max(dist, 3)] {
				tokens = append(tokens, api.Token{Lit: c})
			}
			tokens = append(tokens, api.Token{Len: 258 - i, Dist: dist})
			checkTokens(t, tokens, Fixed)
			blocks := checkTokens(t, tokens, Own)
			last := blocks[len(blocks)-1]
			if len(last.symbols) != 2 || last.symbols[fmt.Sprint("dist ", i)] != 1 {
				t.Errorf("distance %d: %v", dist, last.symbols)
			}
		}
	}
}

// P10.1: in data, copies from as far back as they may be.
func TestFarCopies(t *testing.T) {
	piece := []byte("a piece that comes again")
	for _, dist := range []int{30, 4096, 24576, 24577, 32767, 32768, 32769} {
		between := mixed(dist-len(piece), 13, 256)
		for i := range between {
			between[i] |= 128
		}
		checkAll(t, slices.Concat(piece, between, piece, []byte("!")))
	}
}

// growing is numbers, each as often as the two before it together. The best
// words for them are as long as there are numbers, less one; if the first one is
// left out, and something else comes once, too.
func growing(numbers []int) []int {
	var list []int
	often, next := 1, 1
	for _, n := range numbers {
		list = append(list, slices.Repeat([]int{n}, often)...)
		often, next = next, often+next
	}
	return list
}

// longestBest is how many bits the longest word has, if it may have up to 30.
func longestBest(t *testing.T, often []int) int {
	t.Helper()
	lens, err := limit.Lengths(often, 30)
	if err != api.OK {
		t.Fatalf("error %d", err)
	}
	return slices.Max(lens)
}

// P10.1: bytes and distances some of which are so rare that the best words for
// them would be longer than 15 bits.
func TestRareSymbols(t *testing.T) {
	var bytesAlone, copies []api.Token
	for _, c := range growing([]int{0, 9, 17, 33, 65, 99, 100, 101, 144, 150, 160, 170, 180, 190, 200, 210, 220, 255})[1:] {
		bytesAlone = append(bytesAlone, api.Token{Lit: byte(c)})
	}
	for _, c := range mixed(5000, 17, 256) {
		copies = append(copies, api.Token{Lit: c})
	}
	for _, i := range growing([]int{23, 1, 5, 2, 8, 3, 22, 4, 6, 7, 21, 9, 10, 11, 20, 0, 19, 18}) {
		copies = append(copies, api.Token{Len: 3 + i, Dist: distsOf[i].from})
	}
	for _, tokens := range [][]api.Token{bytesAlone, copies} {
		literals, distances := newEncoder().count(tokens)
		if longestBest(t, literals) <= 15 && longestBest(t, distances) <= 15 {
			t.Error("no symbol is so rare")
		}
		checkTokens(t, tokens, Own)
		slices.Reverse(bytesAlone)
		checkTokens(t, bytesAlone, Own)
	}
}

// checkDescribed holds the description of code lengths against the chapter's words of layer 8.
func checkDescribed(t *testing.T, literals, distances []int) {
	t.Helper()
	e := newEncoder()
	e.describe(literals, distances)
	packed, err := e.result()
	if err != api.OK {
		t.Fatalf("%v, %v: error %d", literals, distances, err)
	}
	r := &reader{data: packed}
	gotLiterals, gotDistances := r.lengths()
	if r.at != e.out.Len() {
		t.Fatalf("%v, %v: %d of %d bits are read", literals, distances, r.at, e.out.Len())
	}
	checkSame(t, gotLiterals, literals)
	checkSame(t, gotDistances, distances)
}

// checkSame holds code lengths against those that were described; noughts at
// the end may be left out.
func checkSame(t *testing.T, got, want []int) {
	t.Helper()
	if len(got) > len(want) || !slices.Equal(got, want[:len(got)]) || slices.Max(append([]int{0}, want[len(got):]...)) != 0 {
		t.Fatalf("%v; want %v", got, want)
	}
}

// P10.1: the code lengths of blocks of type 2: runs of all lengths, of noughts
// and of others, at the beginning, within and up to the end.
func TestRunsOfCodeLengths(t *testing.T) {
	for _, length := range []int{0, 1, 7, 15} {
		for n := 1; n < 286; n++ {
			for _, first := range []int{0, 1, 285 - n} {
				literals := slices.Repeat([]int{8, 9}, 143)
				for i := range n {
					literals[first+i] = length
				}
				checkDescribed(t, literals, make([]int, 30))
			}
		}
		for n := range 31 {
			distances := slices.Concat(slices.Repeat([]int{length}, n), make([]int, 30-n))
			checkDescribed(t, slices.Repeat([]int{3, 4, 5}, 286/3+1)[:286], distances)
			checkDescribed(t, append(make([]int, 256), slices.Repeat([]int{length}, 30)...), append(distances[:29:29], 1))
		}
	}
}

// P10.1: code lengths that follow no simple pattern, and as few as there may be.
func TestMixedCodeLengths(t *testing.T) {
	for seed := range uint32(2000) {
		d := dice{seed}
		literals, distances := make([]int, 286), make([]int, 30)
		count := 2 + d.below(15)
		for i := range literals[:257+d.below(30)] {
			literals[i] = d.below(count) * d.below(2)
		}
		for i := range distances[:d.below(31)] {
			distances[i] = d.below(count)
		}
		literals[256] = 1
		literals[d.below(256)] = 2
		checkDescribed(t, literals, distances)
	}
}

// P10.1: code lengths some of which are so rare that the best words for them
// would be longer than 7 bits. They stand so that they hardly repeat.
func TestRareCodeLengths(t *testing.T) {
	list := growing([]int{0, 2, 3, 4, 5, 6, 7, 8, 9, 10, 11})[1:]
	for _, step := range []int{86, 89, 92, 94} {
		literals := make([]int, 257)
		for i, n := range list {
			literals[(i*step)%len(list)] = n
		}
		if longestBest(t, countMarks(packed(literals))) <= 7 {
			t.Error("no code length is so rare")
		}
		checkDescribed(t, literals, []int{11})
	}
}

// P10.1: as many tokens as a block has at most, one less, one more, and several times as many.
func TestManyTokens(t *testing.T) {
	data := mixed(3*mostTokens+1, 19, 256)
	var tokens []api.Token
	for _, c := range data {
		tokens = append(tokens, api.Token{Lit: c})
	}
	for _, n := range []int{mostTokens - 1, mostTokens, mostTokens + 1, 2 * mostTokens, 3*mostTokens + 1} {
		for _, how := range []int{Fixed, Own} {
			checkTokens(t, tokens[:n], how)
		}
	}
	for _, how := range ways {
		check(t, data, how)
	}
}

// P10.1, P10.3
func TestMixedBytes(t *testing.T) {
	for seed := range uint32(60) {
		for _, count := range []int{1, 2, 3, 16, 256} {
			checkAll(t, mixed(int(seed)*9, seed, count))
			checkAll(t, patchwork(int(seed)*9, seed, count, 100))
		}
	}
	for _, count := range []int{2, 16, 256} {
		checkAll(t, patchwork(200000, 23, count, 32768))
		checkAll(t, mixed(100000, 29, count))
	}
}

// P1, P10.3: more than a million bytes, whichever they are.
func TestMillionsOfBytes(t *testing.T) {
	for _, data := range [][]byte{mixed(1<<20, 31, 256), mixed(1<<20, 37, 3), patchwork(1<<20, 41, 7, 100000)} {
		for _, how := range ways {
			packed, err := Deflate(data, how)
			if err != api.OK {
				t.Fatalf("%d: error %d", how, err)
			}
			checkInflate(t, packed, data, how)
		}
	}
}

// P2, with the rules that arguments are neither changed nor kept, and that
// elements beyond a slice's length aren't read.
func TestTheSameCallAnswersTheSame(t *testing.T) {
	full := patchwork(3000, 43, 9, 1000)
	kept := slices.Clone(full)
	data := full[:2000]
	for _, how := range ways {
		want, _ := Deflate(data, how)
		for range 3 {
			again, _ := Deflate(data, how)
			other, _ := Deflate(slices.Clone(data), how)
			if !bytes.Equal(again, want) || !bytes.Equal(other, want) {
				t.Errorf("%d: another answer", how)
			}
			Deflate([]byte("something else"), 2-how)
			Deflate(data, -1)
		}
	}
	for n := range 40 {
		repeated := []byte("abcdabcdabcdabcdabcdabcdabcdabcdabcdabcd")
		for _, how := range ways {
			one, _ := Deflate(repeated[:n], how)
			other, _ := Deflate(slices.Clone(repeated[:n]), how)
			if !bytes.Equal(one, other) {
				t.Errorf("what lies beyond %d bytes counts", n)
			}
		}
	}
	if !bytes.Equal(full, kept) {
		t.Error("an argument was changed")
	}
}

// The rule that a result shares no memory with an argument or another result.
func TestResultsAreNotShared(t *testing.T) {
	for _, how := range ways {
		data := []byte("as it is, as it is")
		one, _ := Deflate(data, how)
		other, _ := Deflate(data, how)
		clear(one[:cap(one)])
		if string(data) != "as it is, as it is" {
			t.Error(string(data))
		}
		clear(data)
		checkPacked(t, other, []byte("as it is, as it is"), how)
	}
}

// An error of a layer below isn't lost, and beside the first one nothing is answered.
func TestErrorsAreKept(t *testing.T) {
	for _, c := range []struct {
		wrong func(*encoder)
		want  api.Errno
	}{
		{func(e *encoder) { e.number(2, 1) }, api.ErrOver},
		{func(e *encoder) { e.number(-1, 33) }, api.ErrArg},
		{func(e *encoder) { e.lengths([]int{-1}, 15) }, api.ErrArg},
		{func(e *encoder) { e.lengths([]int{1, 1, 1}, 1) }, api.ErrLong},
		{func(e *encoder) { e.book([]int{1, 1, 1}) }, api.ErrForm},
		{func(e *encoder) { e.mark(e.book([]int{1, 0}), mark{symbol: 1}) }, api.ErrNone},
	} {
		e := newEncoder()
		e.number(5, 3)
		if packed, err := e.result(); !bytes.Equal(packed, []byte{5}) || err != api.OK {
			t.Errorf("%v, error %d", packed, err)
		}
		c.wrong(e)
		e.number(5, 3)
		e.number(1000, 1)
		if packed, err := e.result(); len(packed) != 0 || err != c.want {
			t.Errorf("%v, error %d; want error %d", packed, err, c.want)
		}
	}
}

// P1: whatever comes, the call ends, and it answers by the chapter's words.
func FuzzEveryCallEnds(f *testing.F) {
	f.Add([]byte("abcabcabc"), 0)
	f.Add([]byte{}, 2)
	f.Add([]byte{0, 0, 0, 0, 255, 255}, 1)
	f.Add(patchwork(500, 47, 200, 500), -1)
	f.Fuzz(func(t *testing.T, data []byte, how int) {
		kept := slices.Clone(data)
		checkAll(t, data)
		checkAll(t, append(bytes.Repeat(data, 3), data[len(data)/2:]...))
		if how < 0 || how > 2 {
			if packed, err := Deflate(data, how); len(packed) != 0 || err != api.ErrArg {
				t.Errorf("%d: %v, error %d", how, packed, err)
			}
		}
		if !bytes.Equal(data, kept) {
			t.Error("an argument was changed")
		}
	})
}
