package samples

import (
	"bytes"
	"fmt"
	"math"
	"math/big"
	"slices"
	"strings"
	"testing"

	"mezzotint/api"
)

// The tests' own model goes by texts of 0 and 1.

var orders = []bool{false, true}

// wrongWides are numbers of bits that no sample has.
var wrongWides = []int{math.MinInt, math.MinInt + 1, math.MinInt32, -256, -32, -16, -8, -1, 0, 33, 34, 40, 48, 64, 65, 256, 1 << 32, 1<<32 + 8, 1<<32 + 16, math.MaxInt - 1, math.MaxInt}

// wrongCounts are numbers of samples that there may not be.
var wrongCounts = []int{math.MinInt, math.MinInt + 1, math.MinInt32, -api.MaxCells, -8, -2, -1, api.MaxCells + 1, api.MaxCells + 2, 2 * api.MaxCells, 1 << 31, 1 << 32, 1<<32 + 1, 1 << 58, 1 << 60, 1 << 61, 1<<61 + 1, math.MaxInt - 7, math.MaxInt}

// varied are bytes that look different at each place and from either end.
var varied = []byte{0xa5, 0x0f, 0x13, 0xff, 0x00, 0x80, 0x01, 0xc8, 0x6d, 0x37, 0x92, 0xfe, 0x4b}

// eachWide goes through all numbers of bits of a sample, with either byte order.
func eachWide(visit func(wide int, big bool)) {
	for wide := 1; wide <= 32; wide++ {
		for _, big := range orders {
			visit(wide, big)
		}
	}
}

// greatest is the greatest sample of so many bits.
func greatest(wide int) uint32 { return uint32(1<<wide - 1) }

// inOrder is the bits of a sample's bytes in a byte order, of the bits of those
// in the other one or in the same.
func inOrder(text string, wide int, big bool) string {
	if big || wide != 16 && wide != 32 {
		return text
	}
	var turned string
	for len(text) > 0 {
		turned = text[:8] + turned
		text = text[8:]
	}
	return turned
}

// packedText is the bits of packed samples, by the chapter's words.
func packedText(l []uint32, wide int, big bool) string {
	var text strings.Builder
	for _, v := range l {
		text.WriteString(inOrder(fmt.Sprintf("%0*b", wide, v), wide, big))
	}
	return text.String()
}

// numberOf is a group of bits taken as a number.
func numberOf(group string) uint32 {
	var v uint32
	for _, c := range group {
		v = 2*v + uint32(c-'0')
	}
	return v
}

// samplesOf is the first n samples of a text, by the chapter's words.
func samplesOf(text string, n, wide int, big bool) []uint32 {
	var l []uint32
	for range n {
		l = append(l, numberOf(inOrder(text[:wide], wide, big)))
		text = text[wide:]
	}
	return l
}

// bytesOf is the bytes that have the bits of a text; the last one is filled up.
func bytesOf(text string) []byte {
	var b []byte
	for len(text) > 0 {
		eight := (text + "0000000")[:8]
		text = text[min(8, len(text)):]
		b = append(b, byte(numberOf(eight)))
	}
	return b
}

// textOf is the bits of bytes.
func textOf(b []byte) string {
	var text strings.Builder
	for _, c := range b {
		fmt.Fprintf(&text, "%08b", c)
	}
	return text.String()
}

// sizeOf is how many bytes samples take, worked out without bounds.
func sizeOf(n, wide int) (int, api.Errno) {
	if n < 0 || n > 4194304 || wide < 1 || wide > 32 {
		return 0, api.ErrArg
	}
	all := new(big.Int).Mul(big.NewInt(int64(n)), big.NewInt(int64(wide)))
	whole, rest := all.DivMod(all, big.NewInt(8), new(big.Int))
	return int(whole.Int64()) + rest.Sign(), api.OK
}

// mixed is n samples of so many bits that follow no simple pattern, the same
// for the same seed.
func mixed(n, wide int, seed uint32) []uint32 {
	l := make([]uint32, n)
	for i := range l {
		seed = seed*1664525 + 1013904223
		l[i] = (seed>>16 | seed<<16) & greatest(wide)
	}
	return l
}

// eachList goes through all lists of samples of so many bits, up to a length.
func eachList(most, wide int, visit func([]uint32)) {
	var grow func([]uint32)
	grow = func(l []uint32) {
		visit(l)
		if len(l) == most {
			return
		}
		for v := range greatest(wide) + 1 {
			grow(append(slices.Clip(l), v))
		}
	}
	grow(nil)
}

// checkPack holds Pack against the chapter's words, and whether Unpack reads
// the samples back, all of them or the first ones, but no more.
func checkPack(t *testing.T, l []uint32, wide int, big bool) {
	t.Helper()
	want := bytesOf(packedText(l, wide, big))
	b, err := Pack(l, wide, big)
	if !bytes.Equal(b, want) || err != api.OK {
		t.Fatalf("Pack(%v, %d, %t): %x, error %d; want %x", l, wide, big, b, err, want)
	}
	if size, err := Size(len(l), wide); size != len(b) || err != api.OK {
		t.Fatalf("Size(%d, %d): %d, error %d; want %d", len(l), wide, size, err, len(b))
	}
	for n := range len(l) + 1 {
		if got, err := Unpack(b, n, wide, big); !slices.Equal(got, l[:n]) || err != api.OK {
			t.Fatalf("Unpack(%x, %d, %d, %t): %v, error %d; want %v", b, n, wide, big, got, err, l[:n])
		}
	}
	if got, err := Unpack(b, 8*len(b)/wide+1, wide, big); len(got) != 0 || err != api.ErrCut {
		t.Fatalf("Unpack(%x, %d, %d, %t): %v, error %d; want ErrCut", b, 8*len(b)/wide+1, wide, big, got, err)
	}
}

// checkUnpack holds Unpack against the chapter's words for any bytes.
func checkUnpack(t *testing.T, b []byte, n, wide int, big bool) {
	t.Helper()
	size, wantErr := sizeOf(n, wide)
	if wantErr == api.OK && len(b) < size {
		wantErr = api.ErrCut
	}
	var want []uint32
	if wantErr == api.OK {
		want = samplesOf(textOf(b[:size]), n, wide, big)
	}
	if got, err := Unpack(b, n, wide, big); !slices.Equal(got, want) || err != wantErr {
		t.Fatalf("Unpack(%x, %d, %d, %t): %v, error %d; want %v, error %d", b, n, wide, big, got, err, want, wantErr)
	}
}

// P17.1
func TestTheDocumentsExamples(t *testing.T) {
	for _, big := range orders {
		if b, err := Pack([]uint32{1, 0, 1, 1}, 1, big); !bytes.Equal(b, []byte{176}) || err != api.OK {
			t.Error(b, err)
		}
		if l, err := Unpack([]byte{176}, 4, 1, big); !slices.Equal(l, []uint32{1, 0, 1, 1}) || err != api.OK {
			t.Error(l, err)
		}
	}
	for _, c := range []struct {
		big  bool
		want []byte
	}{{true, []byte{1, 2}}, {false, []byte{2, 1}}} {
		if b, err := Pack([]uint32{258}, 16, c.big); !bytes.Equal(b, c.want) || err != api.OK {
			t.Error(b, err)
		}
		if l, err := Unpack(c.want, 1, 16, c.big); !slices.Equal(l, []uint32{258}) || err != api.OK {
			t.Error(l, err)
		}
	}
}

// P17.1
func TestSize(t *testing.T) {
	for _, c := range []struct{ n, wide, want int }{
		{0, 1, 0}, {0, 32, 0}, {1, 1, 1}, {8, 1, 1}, {9, 1, 2}, {16, 1, 2}, {17, 1, 3},
		{2, 3, 1}, {3, 3, 2}, {8, 3, 3}, {2, 4, 1}, {3, 4, 2}, {1, 7, 1}, {7, 7, 7}, {8, 7, 7},
		{1, 8, 1}, {5, 8, 5}, {1, 9, 2}, {8, 9, 9}, {1, 12, 2}, {2, 12, 3}, {3, 16, 6},
		{1, 17, 3}, {3, 24, 9}, {1, 31, 4}, {8, 31, 31}, {1, 32, 4}, {3, 32, 12},
		{4194304, 1, 524288}, {4194303, 1, 524288}, {4194296, 1, 524287}, {4194304, 16, 8388608}, {4194304, 31, 16252928}, {4194304, 32, 16777216},
	} {
		if got, err := Size(c.n, c.wide); got != c.want || err != api.OK {
			t.Errorf("Size(%d, %d) = %d, %d; want %d", c.n, c.wide, got, err, c.want)
		}
	}
}

// P17.1: few samples, and as many as there may be or nearly, of all numbers of bits.
func TestSizeIsRoundedUp(t *testing.T) {
	for wide := 1; wide <= 32; wide++ {
		for i := range 3000 {
			for _, n := range []int{i, 4194304 - i} {
				want, _ := sizeOf(n, wide)
				if got, err := Size(n, wide); got != want || err != api.OK {
					t.Fatalf("Size(%d, %d) = %d, %d; want %d", n, wide, got, err, want)
				}
			}
		}
	}
}

// P17.1
func TestSizeOfWrongArguments(t *testing.T) {
	for _, n := range append(slices.Clone(wrongCounts), 0, 1, 2, 8, api.MaxCells-1, api.MaxCells) {
		for _, wide := range append(slices.Clone(wrongWides), 1, 2, 8, 16, 31, 32) {
			want, wantErr := sizeOf(n, wide)
			wrong := slices.Contains(wrongCounts, n) || slices.Contains(wrongWides, wide)
			if wrong != (wantErr == api.ErrArg) {
				t.Fatalf("the model of Size(%d, %d): error %d", n, wide, wantErr)
			}
			if got, err := Size(n, wide); got != want || err != wantErr {
				t.Errorf("Size(%d, %d) = %d, %d; want %d, %d", n, wide, got, err, want, wantErr)
			}
		}
	}
}

// P17.1: samples and bytes that were written down by hand.
func TestPackedSamples(t *testing.T) {
	for _, c := range []struct {
		wide        int
		l           []uint32
		big, little []byte
	}{
		{1, []uint32{0}, []byte{0}, []byte{0}},
		{1, []uint32{1}, []byte{0x80}, []byte{0x80}},
		{1, []uint32{0, 0, 0, 0, 0, 0, 0, 1}, []byte{1}, []byte{1}},
		{1, []uint32{1, 1, 1, 1, 1, 1, 1, 1, 1}, []byte{0xff, 0x80}, []byte{0xff, 0x80}},
		{2, []uint32{0, 1, 2, 3, 2}, []byte{0x1b, 0x80}, []byte{0x1b, 0x80}},
		{3, []uint32{5, 7}, []byte{0xbc}, []byte{0xbc}},
		{3, []uint32{1, 2, 4}, []byte{0x2a, 0x00}, []byte{0x2a, 0x00}},
		{4, []uint32{1, 2, 15}, []byte{0x12, 0xf0}, []byte{0x12, 0xf0}},
		{7, []uint32{127, 0, 1}, []byte{0xfe, 0x00, 0x08}, []byte{0xfe, 0x00, 0x08}},
		{8, []uint32{0, 1, 128, 255}, []byte{0, 1, 128, 255}, []byte{0, 1, 128, 255}},
		{9, []uint32{256, 255}, []byte{0x80, 0x3f, 0xc0}, []byte{0x80, 0x3f, 0xc0}},
		{12, []uint32{0xabc, 0xdef, 0x123}, []byte{0xab, 0xcd, 0xef, 0x12, 0x30}, []byte{0xab, 0xcd, 0xef, 0x12, 0x30}},
		{15, []uint32{0x7fff, 1}, []byte{0xff, 0xfe, 0x00, 0x04}, []byte{0xff, 0xfe, 0x00, 0x04}},
		{16, []uint32{0x0102, 0xf304, 5}, []byte{1, 2, 0xf3, 4, 0, 5}, []byte{2, 1, 4, 0xf3, 5, 0}},
		{17, []uint32{0x10000, 1}, []byte{0x80, 0x00, 0x00, 0x00, 0x40}, []byte{0x80, 0x00, 0x00, 0x00, 0x40}},
		{24, []uint32{0x010203, 0xf4f5f6}, []byte{1, 2, 3, 0xf4, 0xf5, 0xf6}, []byte{1, 2, 3, 0xf4, 0xf5, 0xf6}},
		{31, []uint32{0x7fffffff, 1}, []byte{0xff, 0xff, 0xff, 0xfe, 0x00, 0x00, 0x00, 0x04}, []byte{0xff, 0xff, 0xff, 0xfe, 0x00, 0x00, 0x00, 0x04}},
		{32, []uint32{0x01020304, 0xfffefdfc}, []byte{1, 2, 3, 4, 0xff, 0xfe, 0xfd, 0xfc}, []byte{4, 3, 2, 1, 0xfc, 0xfd, 0xfe, 0xff}},
	} {
		for _, big := range orders {
			want := c.little
			if big {
				want = c.big
			}
			if b, err := Pack(c.l, c.wide, big); !bytes.Equal(b, want) || err != api.OK {
				t.Errorf("Pack(%v, %d, %t): %x, error %d; want %x", c.l, c.wide, big, b, err, want)
			}
			if l, err := Unpack(want, len(c.l), c.wide, big); !slices.Equal(l, c.l) || err != api.OK {
				t.Errorf("Unpack(%x, %d, %d, %t): %v, error %d; want %v", want, len(c.l), c.wide, big, l, err, c.l)
			}
		}
	}
}

// P17.1, P17.2
func TestNoSamples(t *testing.T) {
	eachWide(func(wide int, big bool) {
		for _, l := range [][]uint32{nil, {}} {
			checkPack(t, l, wide, big)
		}
		for _, b := range [][]byte{nil, {}, {0xff}, varied} {
			checkUnpack(t, b, 0, wide, big)
		}
	})
}

// P17.1, P17.2: all samples of up to 12 bits, and those around powers of two.
func TestSamplesOfEachWide(t *testing.T) {
	eachWide(func(wide int, big bool) {
		var l []uint32
		for v := range min(greatest(wide), 4095) + 1 {
			l = append(l, v)
		}
		for i := range wide {
			p := uint32(1) << i
			l = append(l, p-1, p, min(p+1, greatest(wide)))
		}
		l = append(l, greatest(wide)-1, greatest(wide))
		for _, v := range l {
			checkPack(t, []uint32{v}, wide, big)
			checkPack(t, []uint32{v, greatest(wide), v}, wide, big)
		}
		for start := 0; start < len(l); start += 50 {
			checkPack(t, l[start:min(start+50, len(l))], wide, big)
		}
	})
}

// P17.1, P17.2
func TestAllShortLists(t *testing.T) {
	for _, c := range []struct{ wide, most int }{{1, 11}, {2, 6}, {3, 4}, {4, 3}, {5, 2}, {6, 2}, {7, 2}} {
		for _, big := range orders {
			eachList(c.most, c.wide, func(l []uint32) { checkPack(t, l, c.wide, big) })
		}
	}
}

// P17.1, P17.2: each number of samples, so that the last byte is filled up by
// each number of bits.
func TestListsOfEachLength(t *testing.T) {
	eachWide(func(wide int, big bool) {
		for n := range 34 {
			for seed := range uint32(4) {
				checkPack(t, mixed(n, wide, seed), wide, big)
			}
			checkPack(t, slices.Repeat([]uint32{greatest(wide)}, n), wide, big)
			checkPack(t, make([]uint32, n), wide, big)
		}
	})
}

// P17.1
func TestTheByteOrderMattersForIntegersAlone(t *testing.T) {
	eachWide(func(wide int, big bool) {
		if !big {
			return
		}
		l := mixed(9, wide, 7)
		one, _ := Pack(l, wide, true)
		other, _ := Pack(l, wide, false)
		if integers := wide == 16 || wide == 32; bytes.Equal(one, other) == integers {
			t.Errorf("%d bits: %x and %x", wide, one, other)
		}
		highest, _ := Unpack(one, 9, wide, true)
		lowest, _ := Unpack(one, 9, wide, false)
		if integers := wide == 16 || wide == 32; slices.Equal(highest, lowest) == integers {
			t.Errorf("%d bits: %v and %v", wide, highest, lowest)
		}
	})
}

// P17.1
func TestASampleThatDoesNotFit(t *testing.T) {
	eachWide(func(wide int, big bool) {
		if wide == 32 {
			return
		}
		for _, over := range []uint32{greatest(wide) + 1, greatest(wide) + 2, 1 << 31, math.MaxUint32} {
			if over <= greatest(wide) {
				continue
			}
			for n := 1; n < 12; n++ {
				for i := range n {
					l := slices.Repeat([]uint32{greatest(wide)}, n)
					l[i] = over
					if b, err := Pack(l, wide, big); len(b) != 0 || err != api.ErrOver {
						t.Fatalf("Pack(%v, %d, %t): %x, error %d; want ErrOver", l, wide, big, b, err)
					}
				}
			}
		}
	})
}

// P17.1: a wrong number of bits comes before a sample that doesn't fit, and before bytes that end.
func TestWrongWides(t *testing.T) {
	for _, wide := range wrongWides {
		for _, big := range orders {
			for _, l := range [][]uint32{nil, {0}, {1, 2, 3}, {math.MaxUint32}} {
				if b, err := Pack(l, wide, big); len(b) != 0 || err != api.ErrArg {
					t.Errorf("Pack(%v, %d): %x, error %d; want ErrArg", l, wide, b, err)
				}
			}
			for _, b := range [][]byte{nil, {1}, varied} {
				for _, n := range []int{0, 1, 2, 100} {
					if l, err := Unpack(b, n, wide, big); len(l) != 0 || err != api.ErrArg {
						t.Errorf("Unpack(%x, %d, %d): %v, error %d; want ErrArg", b, n, wide, l, err)
					}
				}
			}
		}
	}
}

// P17.1: a wrong number of samples comes before bytes that end.
func TestUnpackWrongCounts(t *testing.T) {
	for _, n := range wrongCounts {
		eachWide(func(wide int, big bool) {
			for _, b := range [][]byte{nil, {1}, varied} {
				if l, err := Unpack(b, n, wide, big); len(l) != 0 || err != api.ErrArg {
					t.Errorf("Unpack(%x, %d, %d): %v, error %d; want ErrArg", b, n, wide, l, err)
				}
			}
		})
	}
}

// P17.1, P17.2: as many samples as there may be, and one more.
func TestTheGreatestNumberOfSamples(t *testing.T) {
	for _, wide := range []int{1, 8, 13, 16, 31, 32} {
		for _, big := range orders {
			all := mixed(api.MaxCells+1, wide, 99)
			l := all[:api.MaxCells]
			b, err := Pack(l, wide, big)
			if len(b) != api.MaxCells*wide/8 || err != api.OK {
				t.Fatalf("%d bits: %d bytes, error %d", wide, len(b), err)
			}
			if got, err := Unpack(b, len(l), wide, big); !slices.Equal(got, l) || err != api.OK {
				t.Fatalf("%d bits: %d samples, error %d", wide, len(got), err)
			}
			if got, err := Unpack(b[:len(b)-1], len(l), wide, big); len(got) != 0 || err != api.ErrCut {
				t.Errorf("%d bits, a byte fewer: %d samples, error %d", wide, len(got), err)
			}
			if got, err := Unpack(append(b, b[:64]...), len(all), wide, big); len(got) != 0 || err != api.ErrArg {
				t.Errorf("%d bits: %d samples, error %d; want ErrArg", wide, len(got), err)
			}
			if b, err := Pack(all, wide, big); len(b) != 0 || err != api.ErrArg {
				t.Errorf("%d bits: %d bytes, error %d; want ErrArg", wide, len(b), err)
			}
		}
	}
}

// P17.1: too many samples come before one that doesn't fit.
func TestTooManySamplesOfWhichSomeDoNotFit(t *testing.T) {
	l := make([]uint32, api.MaxCells+1)
	l[0], l[api.MaxCells] = math.MaxUint32, math.MaxUint32
	for _, wide := range []int{-1, 0, 1, 8, 16, 31, 32, 33} {
		if b, err := Pack(l, wide, true); len(b) != 0 || err != api.ErrArg {
			t.Errorf("%d bits: %d bytes, error %d; want ErrArg", wide, len(b), err)
		}
	}
	for _, wide := range []int{1, 8, 16, 31} {
		if b, err := Pack(l[1:], wide, true); len(b) != 0 || err != api.ErrOver {
			t.Errorf("%d bits: %d bytes, error %d; want ErrOver", wide, len(b), err)
		}
	}
}

// P17.1: as many bytes as samples take are enough, and one byte fewer aren't.
func TestUnpackEachNumberOfBytes(t *testing.T) {
	eachWide(func(wide int, big bool) {
		for length := range len(varied) + 1 {
			for n := range 8*len(varied) + 2 {
				checkUnpack(t, varied[:length], n, wide, big)
			}
		}
	})
}

// P17.1: bits that fill up the last byte, and bytes behind it, may be any.
func TestWhatFollowsDoesNotMatter(t *testing.T) {
	eachWide(func(wide int, big bool) {
		for n := range 20 {
			l := mixed(n, wide, 5)
			text := packedText(l, wide, big)
			for _, rest := range []string{"", "1", "0", "1111111", "0101010", strings.Repeat("1", 8), strings.Repeat("10", 40)} {
				b := bytesOf(text + rest)
				if got, err := Unpack(b, n, wide, big); !slices.Equal(got, l) || err != api.OK {
					t.Fatalf("Unpack(%x, %d, %d, %t): %v, error %d; want %v", b, n, wide, big, got, err, l)
				}
			}
		}
	})
}

// P17.1: all data of two bytes.
func TestUnpackAllShortBytes(t *testing.T) {
	for i := range 1 << 16 {
		b := []byte{byte(i >> 8), byte(i)}
		for _, c := range []struct{ n, wide int }{{16, 1}, {5, 3}, {2, 8}, {1, 11}, {1, 16}} {
			for _, big := range orders {
				checkUnpack(t, b, c.n, c.wide, big)
			}
		}
	}
}

// P17.2, the other way: samples packed again have the bytes' bits, without those that filled up the last one.
func TestPackWhatWasUnpacked(t *testing.T) {
	eachWide(func(wide int, big bool) {
		for length := range len(varied) + 1 {
			b := varied[:length]
			n := 8 * length / wide
			l, err := Unpack(b, n, wide, big)
			if err != api.OK {
				t.Fatal(err)
			}
			want := bytesOf(textOf(b)[:n*wide])
			if got, err := Pack(l, wide, big); !bytes.Equal(got, want) || err != api.OK {
				t.Errorf("%d bits: %x, error %d; want %x", wide, got, err, want)
			}
		}
	})
}

// P2, with the rules that arguments aren't changed and that results share nothing.
func TestTheSameCallAnswersTheSame(t *testing.T) {
	eachWide(func(wide int, big bool) {
		l := mixed(13, wide, 3)
		want := bytesOf(packedText(l, wide, big))
		keptSamples, keptBytes := slices.Clone(l), slices.Clone(want)
		for range 3 {
			b, err := Pack(l, wide, big)
			if !bytes.Equal(b, want) || err != api.OK {
				t.Fatal(b, err)
			}
			clear(b[:cap(b)])
			got, err := Unpack(want, 13, wide, big)
			if !slices.Equal(got, l) || err != api.OK {
				t.Fatal(got, err)
			}
			clear(got[:cap(got)])
		}
		if !slices.Equal(l, keptSamples) || !bytes.Equal(want, keptBytes) {
			t.Error("an argument was changed")
		}
	})
}

// The rule that elements beyond a slice's length are neither read nor written.
func TestCapacityDoesNotCount(t *testing.T) {
	eachWide(func(wide int, big bool) {
		b := slices.Repeat(varied, 3)
		if l, err := Unpack(b[:wide-1], 8, wide, big); len(l) != 0 || err != api.ErrCut {
			t.Errorf("%d bits: %v, error %d; want ErrCut", wide, l, err)
		}
		l := []uint32{0, greatest(wide), 1, 1}
		if got, err := Pack(l[:2], wide, big); !bytes.Equal(got, bytesOf(packedText(l[:2], wide, big))) || err != api.OK {
			t.Errorf("%d bits: %x, error %d", wide, got, err)
		}
		if !bytes.Equal(b, slices.Repeat(varied, 3)) || !slices.Equal(l, []uint32{0, greatest(wide), 1, 1}) {
			t.Error("an argument was changed")
		}
	})
}

// P1: whatever comes, the calls end, and what they answer is as the chapter says.
func FuzzEveryCallEnds(f *testing.F) {
	f.Add([]byte{176}, 4, 1, false)
	f.Add([]byte{1, 2}, 1, 16, true)
	f.Add([]byte{}, -1, 33, false)
	f.Add(varied, 2, 31, true)
	f.Fuzz(func(t *testing.T, b []byte, n, wide int, big bool) {
		kept := slices.Clone(b)
		checkUnpack(t, b, n, wide, big)
		want, wantErr := sizeOf(n, wide)
		if size, err := Size(n, wide); size != want || err != wantErr {
			t.Error(size, err)
		}
		wide = int(uint(wide)%32) + 1
		n = 8 * len(b) / wide
		checkUnpack(t, b, n, wide, big)
		l, _ := Unpack(b, n, wide, big)
		if got, err := Pack(l, wide, big); !bytes.Equal(got, bytesOf(textOf(b)[:n*wide])) || err != api.OK {
			t.Error(got, err)
		}
		if !bytes.Equal(b, kept) {
			t.Error("the argument was changed")
		}
	})
}
