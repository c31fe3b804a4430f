package zlib

import (
	"bytes"
	"encoding/hex"
	"math"
	"slices"
	"strings"
	"testing"

	"mezzotint/api"
	"mezzotint/deflate"
	"mezzotint/inflate"
)

// plenty is more bytes than the containers of most tests have.
const plenty = 1 << 20

// ways are those in which bytes are packed: stored, by the fixed codes, by codes of their own.
var ways = []int{0, 1, 2}

// sumOf is the checksum of bytes by the chapter's words, in four bytes.
func sumOf(data []byte) []byte {
	a, b := 1, 0
	for _, c := range data {
		a = (a + int(c)) % 65521
		b = (b + a) % 65521
	}
	return []byte{byte(b >> 8), byte(b), byte(a >> 8), byte(a)}
}

// heads are all pairs of bytes with which a container may begin: the multiples
// of 31 among those with one of eight first bytes.
func heads() map[[2]byte]bool {
	right := map[[2]byte]bool{}
	for _, first := range []int{8, 24, 40, 56, 72, 88, 104, 120} {
		for second := range 256 {
			ofDictionary := second/32%2 == 1
			if (first*256+second)%31 == 0 && !ofDictionary {
				right[[2]byte{byte(first), byte(second)}] = true
			}
		}
	}
	return right
}

// rightHeads are heads, made once.
var rightHeads = heads()

// container is a container with this head, of these blocks, which stand for these bytes.
func container(first, second byte, blocks, data []byte) []byte {
	return slices.Concat([]byte{first, second}, blocks, sumOf(data))
}

// blocksOf is bytes as blocks.
func blocksOf(t *testing.T, data []byte, how int) []byte {
	t.Helper()
	blocks, err := deflate.Deflate(data, how)
	if err != api.OK {
		t.Fatalf("%d: error %d", how, err)
	}
	return blocks
}

// opened is what Open must answer by the chapter's words.
func opened(b []byte, most int) ([]byte, int, api.Errno) {
	if most < 0 {
		return nil, 0, api.ErrArg
	}
	if len(b) < 2 {
		return nil, 0, api.ErrCut
	}
	if !rightHeads[[2]byte(b)] {
		return nil, 0, api.ErrForm
	}
	plain, used, err := inflate.Inflate(b[2:], most)
	if err != api.OK {
		return nil, 0, err
	}
	behind := b[2+used:]
	if len(behind) < 4 {
		return nil, 0, api.ErrCut
	}
	if !bytes.Equal(behind[:4], sumOf(plain)) {
		return nil, 0, api.ErrSum
	}
	return plain, used + 6, api.OK
}

// check holds an answer of Open against these results.
func check(t *testing.T, b []byte, most int, want []byte, size int, err api.Errno) {
	t.Helper()
	plain, n, e := Open(b, most)
	if !bytes.Equal(plain, want) || n != size || e != err {
		t.Errorf("%d bytes, %v, at most %d: %d bytes, %d, error %d; want %d bytes, %d, error %d",
			len(b), b[:min(len(b), 40)], most, len(plain), n, e, len(want), size, err)
	}
}

// checkError is check of an error, with which nothing else is answered.
func checkError(t *testing.T, b []byte, most int, err api.Errno) {
	t.Helper()
	check(t, b, most, nil, 0, err)
}

// checkModel holds an answer of Open against the chapter's words.
func checkModel(t *testing.T, b []byte, most int) {
	t.Helper()
	want, size, err := opened(b, most)
	check(t, b, most, want, size, err)
}

// checkPack holds Pack of bytes in every way against the chapter's words, and
// opens what it answers.
func checkPack(t *testing.T, data []byte) {
	t.Helper()
	for _, how := range ways {
		packed, err := Pack(data, how)
		want := container(120, 1, blocksOf(t, data, how), data)
		if !bytes.Equal(packed, want) || err != api.OK {
			t.Fatalf("%d bytes, %d: %d bytes, error %d; want %d bytes", len(data), how, len(packed), err, len(want))
		}
		check(t, packed, len(data), data, len(packed), api.OK)
	}
}

// mixed is n bytes that follow no simple pattern, the same for the same seed.
func mixed(n int, seed uint32) []byte {
	data := make([]byte, n)
	for i := range data {
		seed = seed*1664525 + 1013904223
		data[i] = byte(seed >> 24)
	}
	return data
}

// samples are byte sequences of many kinds, short ones first.
func samples() [][]byte {
	list := [][]byte{
		nil, {}, {0}, {255}, {0, 0, 0}, []byte("a"), []byte("Wikipedia"), []byte("abcabcabc"),
		[]byte(strings.Repeat("hello, hello! ", 300)),
		mixed(1000, 1), bytes.Repeat([]byte{255}, 5000),
		make([]byte, 65519), make([]byte, 65520), make([]byte, 65521),
		mixed(65535, 2), mixed(65536, 3), mixed(200000, 4),
	}
	for c := range 256 {
		list = append(list, []byte{byte(c)}, bytes.Repeat([]byte{byte(c)}, 257))
	}
	return list
}

// P11.1, P11.2: the document's example, and others worked out by hand.
func TestKnownContainers(t *testing.T) {
	for _, c := range []struct {
		data   string
		how    int
		packed []byte
	}{
		{"", deflate.Stored, []byte{120, 1, 1, 0, 0, 255, 255, 0, 0, 0, 1}},
		{"", deflate.Fixed, []byte{120, 1, 3, 0, 0, 0, 0, 1}},
		{"a", deflate.Stored, []byte{120, 1, 1, 1, 0, 254, 255, 'a', 0, 98, 0, 98}},
		{"a", deflate.Fixed, []byte{120, 1, 75, 4, 0, 0, 98, 0, 98}},
		{"\x01\x02\x03", deflate.Stored, []byte{120, 1, 1, 3, 0, 252, 255, 1, 2, 3, 0, 13, 0, 7}},
		{"Wikipedia", deflate.Stored, append([]byte("\x78\x01\x01\x09\x00\xf6\xffWikipedia"), 17, 230, 3, 152)},
	} {
		packed, err := Pack([]byte(c.data), c.how)
		if !bytes.Equal(packed, c.packed) || err != api.OK {
			t.Errorf("%q, %d: %v, error %d", c.data, c.how, packed, err)
		}
		check(t, c.packed, len(c.data), []byte(c.data), len(c.packed), api.OK)
	}
}

// P11.1, P11.3: the head, layer 10's blocks, and the sum; opened again.
func TestPackIsHeadBlocksAndSum(t *testing.T) {
	for _, data := range samples() {
		checkPack(t, data)
	}
}

// P11.1, P11.3: all short strings of a few bytes.
func TestShortStrings(t *testing.T) {
	longest := [][]byte{nil}
	for range 5 {
		var longer [][]byte
		for _, s := range longest {
			for _, c := range []byte{0, 'a', 143, 255} {
				longer = append(longer, append(slices.Clone(s), c))
			}
		}
		for _, s := range longer {
			checkPack(t, s)
		}
		longest = longer
	}
}

// P11.1: layer 10's error for a way that there isn't; with whatever bytes.
func TestOtherWays(t *testing.T) {
	for _, how := range []int{-1, 3, 4, 120, 256, 1 << 32, 1<<32 + 1, math.MinInt, math.MaxInt} {
		for _, data := range [][]byte{nil, {}, []byte("a"), make([]byte, 70000)} {
			if packed, err := Pack(data, how); len(packed) != 0 || err != api.ErrArg {
				t.Errorf("%d bytes, %d: %d bytes, error %d", len(data), how, len(packed), err)
			}
		}
	}
}

// P11.2: what comes of zlib's own encoder: stored, by the fixed codes and by
// others, of each level and window, and in several blocks.
func TestContainersOfAnotherEncoder(t *testing.T) {
	peter := "Peter Piper picked a peck of pickled peppers; a peck of pickled peppers Peter Piper picked."
	for _, c := range []struct{ data, want string }{
		{"7801010000ffff00000001", ""},
		{"789c030000000001", ""},
		{"785e4b040000620062", "a"},
		{"78da0b482d492d5208c82c00920599c9d9a9290a890a05a9c9d90af96960811ca048416a0150bed81ab794420086397a00d5c72092", peter},
		{"780105c10109c0300c44512ba7600666a21646fa0721851d69fdb3f70687d648d3724631f5c844e97be58c5a4c199bdeb71e99287daf9c518b2963d35b83436ba46939a398d70fd5c72092", peter},
		{"789c63601805a360140c77000003e80001", strings.Repeat("\x00", 1000)},
		{"78da4b4c4a4e1c45c42100884d72d9", strings.Repeat("abc", 100)},
		{"789cca48cdc9c957c8009300000000ffff432201680308b1", "hello hello hello hello"},
		{"18192bcfcc4bc92f070009160299", "window"},
		{"28cf2bcfcc4bc92f070009160299", "window"},
		{"38112bcfcc4bc92f070009160299", "window"},
		{"48c72bcfcc4bc92f070009160299", "window"},
		{"58092bcfcc4bc92f070009160299", "window"},
		{"68de2bcfcc4bc92f070009160299", "window"},
	} {
		b, err := hex.DecodeString(c.data)
		if err != nil {
			t.Fatal(err)
		}
		check(t, b, len(c.want), []byte(c.want), len(b), api.OK)
		checkEveryCut(t, b)
	}
}

// P11.2: a preset dictionary isn't known; this is zlib's own container with one.
func TestPresetDictionary(t *testing.T) {
	b, err := hex.DecodeString("78f9238a051d0b482d492d5208c80432150a20128940a9e46c85fc34b0400e5c69b1356e29054c73f400d5c72092")
	if err != nil {
		t.Fatal(err)
	}
	checkError(t, b, plenty, api.ErrForm)
}

// P11.2: each pair of bytes ahead of right blocks and their sum, ahead of
// wrong ones, and alone.
func TestEveryHead(t *testing.T) {
	if len(rightHeads) != 32 || !rightHeads[[2]byte{120, 1}] || !rightHeads[[2]byte{120, 156}] {
		t.Fatal(rightHeads)
	}
	for first := range 256 {
		for second := range 256 {
			head := [2]byte{byte(first), byte(second)}
			b := container(head[0], head[1], []byte{3, 0}, nil)
			if !rightHeads[head] {
				checkError(t, b, plenty, api.ErrForm)
				checkError(t, b, 0, api.ErrForm)
				checkError(t, b[:2], plenty, api.ErrForm)
				checkError(t, append(head[:], 7), plenty, api.ErrForm)
				continue
			}
			check(t, b, plenty, nil, 8, api.OK)
			checkError(t, b[:2], plenty, api.ErrCut)
			b[7]++
			checkError(t, b, plenty, api.ErrSum)
		}
	}
}

// P11.2: fewer than two bytes are cut, whatever the first one is.
func TestCutHeads(t *testing.T) {
	for _, most := range []int{0, 1, plenty, math.MaxInt} {
		checkError(t, nil, most, api.ErrCut)
		checkError(t, []byte{}, most, api.ErrCut)
		for first := range 256 {
			checkError(t, []byte{byte(first)}, most, api.ErrCut)
		}
	}
}

// P11.2: the window that a head names doesn't bound how far copies reach.
func TestWindowsDoNotBindCopies(t *testing.T) {
	piece := mixed(200, 5)
	data := slices.Concat(piece, make([]byte, 32768-200), piece)
	blocks := blocksOf(t, data, deflate.Own)
	if len(blocks) > 600 {
		t.Fatalf("%d bytes: the piece isn't copied", len(blocks))
	}
	for head := range rightHeads {
		b := container(head[0], head[1], blocks, data)
		check(t, b, len(data), data, len(b), api.OK)
	}
}

// P11.2: a wrong maximum comes first, whatever the bytes are.
func TestNegativeMost(t *testing.T) {
	good := container(120, 1, []byte{75, 4, 0}, []byte("a"))
	for _, b := range [][]byte{nil, {}, {120}, {0}, {0, 0}, {120, 1}, {120, 1, 7}, good, good[:8], append(good[:8:8], 0)} {
		for _, most := range []int{-1, -2, math.MinInt32, math.MinInt} {
			checkError(t, b, most, api.ErrArg)
		}
	}
}

// P11.2: so many bytes as are allowed, and no more; the sum doesn't matter then.
func TestTooMuch(t *testing.T) {
	for _, data := range [][]byte{[]byte("a"), []byte("abcabcabc"), make([]byte, 1000), mixed(70000, 6)} {
		for _, how := range ways {
			b := container(120, 218, blocksOf(t, data, how), data)
			for _, most := range []int{len(data), len(data) + 1, plenty, math.MaxInt} {
				check(t, b, most, data, len(b), api.OK)
			}
			b[len(b)-1]++
			checkError(t, b, len(data), api.ErrSum)
			for _, most := range []int{0, len(data) / 2, len(data) - 1} {
				checkError(t, b, most, api.ErrLimit)
				checkError(t, b[:len(b)-4], most, api.ErrLimit)
			}
		}
	}
}

// P11.2: the errors of layer 8, ahead of those of the sum.
func TestWrongBlocks(t *testing.T) {
	for _, c := range []struct {
		blocks []byte
		most   int
		err    api.Errno
	}{
		{nil, plenty, api.ErrCut},
		{[]byte{3}, plenty, api.ErrCut},
		{[]byte{1, 1, 0, 254, 255}, plenty, api.ErrCut},
		{[]byte{7}, plenty, api.ErrForm},                      // a block of type 3
		{[]byte{1, 1, 0, 254, 254, 'a'}, plenty, api.ErrForm}, // no complement
		{[]byte{3, 2, 0}, plenty, api.ErrForm},                // a copy of nothing
		{[]byte{27, 3, 0}, plenty, api.ErrCode},               // the symbol 286
		{[]byte{1, 1, 0, 254, 255, 'a'}, 0, api.ErrLimit},
	} {
		b := slices.Concat([]byte{120, 1}, c.blocks)
		checkError(t, b, c.most, c.err)
		if c.err == api.ErrCut {
			continue
		}
		for n := range 5 {
			checkError(t, append(b[:len(b):len(b)], make([]byte, n)...), c.most, c.err)
		}
	}
}

// checkEveryCut holds a container without its end, wherever it is cut.
func checkEveryCut(t *testing.T, b []byte) {
	t.Helper()
	for n := range b {
		checkError(t, b[:n], plenty, api.ErrCut)
	}
}

// P11.2: whatever of its end is missing, a container is cut; also if what is
// left of the sum is wrong.
func TestEveryCut(t *testing.T) {
	for _, data := range [][]byte{nil, []byte("a"), []byte("abcabcabc"), mixed(600, 7), make([]byte, 600)} {
		for _, how := range ways {
			blocks := blocksOf(t, data, how)
			checkEveryCut(t, container(120, 1, blocks, data))
			wrong := slices.Concat([]byte{120, 1}, blocks, []byte{9, 9, 9})
			checkEveryCut(t, wrong)
			checkError(t, wrong, plenty, api.ErrCut)
			checkError(t, append(wrong, 9), plenty, api.ErrSum)
		}
	}
}

// P11.2: each bit of the sum counts, and so does the order of its bytes; it is
// the sum of the bytes, not of their blocks.
func TestWrongSums(t *testing.T) {
	for _, data := range [][]byte{nil, {0}, []byte("a"), []byte("Wikipedia"), make([]byte, 65521), mixed(3000, 8)} {
		for _, how := range ways {
			blocks := blocksOf(t, data, how)
			b := container(120, 1, blocks, data)
			at := len(b) - 4
			for i := range 32 {
				turned := slices.Clone(b)
				turned[at+i/8] ^= 1 << (i % 8)
				checkError(t, turned, plenty, api.ErrSum)
			}
			reversed := slices.Clone(b)
			slices.Reverse(reversed[at:])
			checkError(t, reversed, plenty, api.ErrSum)
			checkError(t, container(120, 1, blocks, blocks), plenty, api.ErrSum)
			checkError(t, slices.Concat(b[:at], make([]byte, 4)), plenty, api.ErrSum)
		}
	}
}

// P11.2: the sum begins with the next whole byte behind the blocks, at
// whichever bit they end, and whatever bits are skipped there.
func TestBlocksThatEndWithinAByte(t *testing.T) {
	ends := [8]bool{}
	for n := range 8 {
		// The fixed words of these bytes have nine bits each.
		data := []byte{200, 201, 202, 203, 204, 205, 206, 207}[:n]
		blocks := blocksOf(t, data, deflate.Fixed)
		free := (8 - (3+9*n+7)%8) % 8
		ends[free] = true
		for skipped := range 1 << free {
			changed := slices.Clone(blocks)
			changed[len(changed)-1] |= byte(skipped << (8 - free))
			b := container(120, 1, changed, data)
			check(t, b, n, data, len(b), api.OK)
		}
	}
	if ends != [8]bool{true, true, true, true, true, true, true, true} {
		t.Error(ends)
	}
}

// P11.2: bytes behind the container don't matter, and don't count.
func TestBytesBehind(t *testing.T) {
	for _, data := range [][]byte{nil, []byte("a"), []byte("abcabcabc"), mixed(600, 9)} {
		for _, how := range ways {
			b := container(120, 94, blocksOf(t, data, how), data)
			for _, more := range [][]byte{{0}, {9}, {255, 255, 255, 255}, b, mixed(100, 10)} {
				check(t, append(b[:len(b):len(b)], more...), len(data), data, len(b), api.OK)
			}
		}
	}
}

// P11.2: how many bytes a container has tells where the next one begins.
func TestContainersBehindEachOther(t *testing.T) {
	var all []byte
	list := samples()[:12]
	for i, data := range list {
		packed, err := Pack(data, i%3)
		if err != api.OK {
			t.Fatal(i, err)
		}
		all = append(all, packed...)
	}
	for i, data := range list {
		plain, n, err := Open(all, plenty)
		if !bytes.Equal(plain, data) || err != api.OK {
			t.Fatalf("%d: %d bytes, error %d", i, len(plain), err)
		}
		all = all[n:]
	}
	if len(all) != 0 {
		t.Errorf("%d bytes are left", len(all))
	}
}

// P11.2: each bit of containers turned, answered by the chapter's words.
func TestTurnedBits(t *testing.T) {
	for _, data := range [][]byte{nil, []byte("a"), []byte("abcabcabc"), mixed(40, 11), make([]byte, 300)} {
		for _, how := range ways {
			b := container(120, 156, blocksOf(t, data, how), data)
			for i := range 8 * len(b) {
				turned := slices.Clone(b)
				turned[i/8] ^= 1 << (i % 8)
				checkModel(t, turned, plenty)
				checkModel(t, turned, len(data))
			}
		}
	}
}

// P11.1, P11.3: some million bytes.
func TestMillionsOfBytes(t *testing.T) {
	checkPack(t, mixed(1<<21, 12))
	checkPack(t, bytes.Repeat([]byte{255}, 1<<22))
}

// P2, with the rules that arguments are neither changed nor kept, nor read
// beyond their length, and that results share no memory.
func TestArgumentsAreLeft(t *testing.T) {
	for _, how := range ways {
		text := []byte("as it is, as it is, and no more")
		data := text[:18]
		one, _ := Pack(data, how)
		other, _ := Pack(data, how)
		if string(text) != "as it is, as it is, and no more" || !bytes.Equal(one, other) {
			t.Fatalf("%q, %v, %v", text, one, other)
		}
		clear(one[:cap(one)])
		clear(text)
		kept := slices.Clone(other)
		first, _, _ := Open(other, plenty)
		second, _, _ := Open(other, plenty)
		if !bytes.Equal(other, kept) {
			t.Errorf("%v; want %v", other, kept)
		}
		clear(first[:cap(first)])
		clear(other)
		if string(second) != "as it is, as it is" {
			t.Errorf("%q", second)
		}
	}
}

// P2: an error, or other bytes in between, change no later answer.
func TestTheSameCallAnswersTheSame(t *testing.T) {
	good := container(120, 1, []byte{75, 4, 0}, []byte("a"))
	wrong := append(good[:8:8], 0)
	for range 3 {
		check(t, good, 1, []byte("a"), 9, api.OK)
		checkError(t, wrong, 1, api.ErrSum)
		checkError(t, good, 0, api.ErrLimit)
		checkError(t, nil, -1, api.ErrArg)
		if packed, err := Pack([]byte("a"), deflate.Fixed); !bytes.Equal(packed, good) || err != api.OK {
			t.Error(packed, err)
		}
		Pack([]byte("something else"), deflate.Own)
		Pack(nil, -1)
	}
}

// P1: whatever comes, the calls end, and they answer by the chapter's words.
func FuzzEveryCallEnds(f *testing.F) {
	f.Add([]byte{}, 0)
	f.Add([]byte{120, 1, 75, 4, 0, 0, 98, 0, 98}, 1)
	f.Add([]byte{120, 1, 75, 4, 0, 0, 98, 0, 99}, 100)
	f.Add([]byte("\x78\x9c\x4b\x4c\x84\x01\x00\x14\xe1\x03\xcb\x09"), -1)
	f.Fuzz(func(t *testing.T, b []byte, most int) {
		kept := slices.Clone(b)
		most = min(most, plenty)
		checkModel(t, b, most)
		checkModel(t, slices.Concat([]byte{120, 1}, b), most)
		if _, used, err := inflate.Inflate(b, max(most, 0)); err == api.OK {
			plain, _, _ := inflate.Inflate(b, most)
			checkModel(t, container(88, 9, b[:used], plain), most)
		}
		checkPack(t, b)
		if packed, err := Pack(b, most); most < 0 && (len(packed) != 0 || err != api.ErrArg) {
			t.Errorf("%d: %v, error %d", most, packed, err)
		}
		if !bytes.Equal(b, kept) {
			t.Error("an argument was changed")
		}
	})
}
