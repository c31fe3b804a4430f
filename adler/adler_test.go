package adler

import (
	"bytes"
	"math"
	"math/big"
	"slices"
	"testing"
)

const modulus = 65521

// following is the sum of bytes behind others by the chapter's words, in
// numbers without bounds: a byte counts in every later value of a, so the i-th
// of n bytes is added to b n-i times, and what a starts with n times.
func following(sum uint32, data []byte) uint32 {
	n := int64(len(data))
	a := big.NewInt(int64(sum & 0xffff))
	b := big.NewInt(int64(sum >> 16))
	b.Add(b, new(big.Int).Mul(a, big.NewInt(n)))
	for i, c := range data {
		a.Add(a, big.NewInt(int64(c)))
		b.Add(b, big.NewInt((n-int64(i))*int64(c)))
	}
	return together(a, b)
}

// joined is the sum of bytes and n others behind them, in numbers without bounds.
func joined(one, other uint32, n uint64) uint32 {
	more := big.NewInt(int64(one&0xffff) - 1)
	a := new(big.Int).Add(more, big.NewInt(int64(other&0xffff)))
	b := new(big.Int).Mul(more, new(big.Int).SetUint64(n))
	b.Add(b, big.NewInt(int64(one>>16)+int64(other>>16)))
	return together(a, b)
}

// together is a sum of both its halves; big.Int's Mod is never negative.
func together(a, b *big.Int) uint32 {
	m := big.NewInt(modulus)
	return uint32(new(big.Int).Mod(b, m).Uint64()<<16 + new(big.Int).Mod(a, m).Uint64())
}

// mixed is n bytes that follow no simple pattern, the same for the same seed.
func mixed(n int, seed uint32) []byte {
	data := make([]byte, n)
	for i := range data {
		seed = seed*1664525 + 1013904223
		data[i] = byte(seed >> 24)
	}
	return data
}

// edgeSequences are byte sequences whose lengths, or whose halves of the sum,
// lie around the modulus, and around powers of two.
func edgeSequences() [][]byte {
	sequences := [][]byte{nil, {}, {0}, {1}, {255}, []byte("a"), []byte("Wikipedia")}
	for _, n := range []int{2, 15, 16, 17, 255, 256, 257, 258, 361, 362, 363, 5551, 5552, 5553, 65520, 65521, 65522, 65535, 65536, 65537, 131041, 131042, 131043, 200000} {
		sequences = append(sequences, bytes.Repeat([]byte{0}, n), bytes.Repeat([]byte{1}, n), bytes.Repeat([]byte{255}, n), mixed(n, uint32(n)))
	}
	for last := byte(238); last <= 242; last++ {
		sequences = append(sequences, append(bytes.Repeat([]byte{255}, 256), last))
	}
	return sequences
}

// edgeSums are sums whose halves lie around the modulus, those that no byte
// sequence has among them.
func edgeSums() []uint32 {
	halves := []uint32{0, 1, 2, 14, 15, 255, 256, 32767, 32768, 65265, 65266, 65267, 65518, 65519, 65520, 65521, 65522, 65534, 65535}
	var sums []uint32
	for _, a := range halves {
		for _, b := range halves {
			sums = append(sums, b<<16|a)
		}
	}
	return sums
}

// P3.1: numbers worked out by hand.
func TestSumOfKnownBytes(t *testing.T) {
	for _, c := range []struct {
		data []byte
		want uint32
	}{
		{nil, 1},
		{[]byte{}, 1},
		{[]byte{0}, 1<<16 + 1},
		{[]byte{1}, 2<<16 + 2},
		{[]byte{255}, 256<<16 + 256},
		{[]byte{0, 0}, 2<<16 + 1},
		{[]byte{1, 2, 3}, (2+4+7)<<16 + 7},
		{[]byte{3, 2, 1}, (4+6+7)<<16 + 7},
		{[]byte("a"), 98<<16 + 98},
		{[]byte("Wikipedia"), 300286872},
	} {
		if got := Sum(c.data); got != c.want {
			t.Errorf("Sum(%v) = %d; want %d", c.data, got, c.want)
		}
	}
}

// P3.1: each half wraps round at 65521, not at 65536 and not later.
func TestSumAtTheModulus(t *testing.T) {
	ends := func(last byte) []byte { return append(bytes.Repeat([]byte{255}, 256), last) }
	for _, c := range []struct {
		data []byte
		want uint32
	}{
		{ends(239), 65520},
		{ends(240), 0},
		{ends(241), 1},
		{ends(242), 2},
	} {
		if got := Sum(c.data) & 0xffff; got != c.want {
			t.Errorf("lower half behind %d = %d; want %d", c.data[256], got, c.want)
		}
	}
	for _, c := range []struct {
		noughts int
		want    uint32
	}{
		{65519, 65519<<16 + 1},
		{65520, 65520<<16 + 1},
		{65521, 1},
		{65522, 1<<16 + 1},
		{65535, 14<<16 + 1},
		{65536, 15<<16 + 1},
		{131041, 65520<<16 + 1},
		{131042, 1},
	} {
		if got := Sum(make([]byte, c.noughts)); got != c.want {
			t.Errorf("Sum of %d noughts = %d; want %d", c.noughts, got, c.want)
		}
	}
}

// P3.1
func TestSumIsTheChecksum(t *testing.T) {
	for _, data := range edgeSequences() {
		if got, want := Sum(data), following(1, data); got != want {
			t.Errorf("Sum of %d bytes = %d; want %d", len(data), got, want)
		}
	}
	for c := range 256 {
		for d := range 256 {
			data := []byte{byte(c), byte(d)}
			if got, want := Sum(data), following(1, data); got != want {
				t.Errorf("Sum(%v) = %d; want %d", data, got, want)
			}
		}
	}
}

// P3.1
func TestSumOfAMillionBytes(t *testing.T) {
	for _, data := range [][]byte{bytes.Repeat([]byte{255}, 1<<20), mixed(1<<20, 7)} {
		if got, want := Sum(data), following(1, data); got != want {
			t.Errorf("%d; want %d", got, want)
		}
	}
}

// P3.1: halves from 65521 on are taken modulo 65521, even if no bytes follow.
func TestUpdateReducesBothHalves(t *testing.T) {
	for _, c := range []struct {
		sum  uint32
		data []byte
		want uint32
	}{
		{0, nil, 0},
		{1, nil, 1},
		{65520<<16 + 65520, nil, 65520<<16 + 65520},
		{65521, nil, 0},
		{65521 << 16, nil, 0},
		{65522<<16 + 65523, nil, 1<<16 + 2},
		{math.MaxUint32, nil, 14<<16 + 14},
		{math.MaxUint32, []byte{}, 14<<16 + 14},
		{0, []byte{0}, 0},
		{0, []byte{5}, 5<<16 + 5},
		{65521, []byte{5}, 5<<16 + 5},
		{65520, []byte{1}, 0},
		{65520<<16 + 1, []byte{0}, 1},
		{65520<<16 + 65520, []byte{0}, 65519<<16 + 65520},
		{65520<<16 + 65520, []byte{255}, 253<<16 + 254},
		{math.MaxUint32, []byte{255}, 283<<16 + 269},
	} {
		if got := Update(c.sum, c.data); got != c.want {
			t.Errorf("Update(%d, %v) = %d; want %d", c.sum, c.data, got, c.want)
		}
	}
}

// P3.1
func TestUpdateOfEdgeSums(t *testing.T) {
	sequences := [][]byte{nil, {}, {0}, {1}, {14}, {255}, {0, 255}, {255, 0}, bytes.Repeat([]byte{255}, 600), mixed(700, 3)}
	for _, sum := range edgeSums() {
		for _, data := range sequences {
			if got, want := Update(sum, data), following(sum, data); got != want {
				t.Errorf("Update(%d, %d bytes) = %d; want %d", sum, len(data), got, want)
			}
		}
	}
	for _, data := range edgeSequences() {
		for _, sum := range []uint32{0, 1, 65520<<16 + 65520, 65521<<16 + 65521, math.MaxUint32} {
			if got, want := Update(sum, data), following(sum, data); got != want {
				t.Errorf("Update(%d, %d bytes) = %d; want %d", sum, len(data), got, want)
			}
		}
	}
}

// checkSplit holds Update and Join of two byte sequences against the sum of both.
func checkSplit(t *testing.T, x, y []byte) {
	t.Helper()
	want := following(1, slices.Concat(x, y))
	if got := Update(Sum(x), y); got != want {
		t.Errorf("Update of %d and %d bytes = %d; want %d", len(x), len(y), got, want)
	}
	if got := Join(Sum(x), Sum(y), uint64(len(y))); got != want {
		t.Errorf("Join of %d and %d bytes = %d; want %d", len(x), len(y), got, want)
	}
}

// P3.1, P3.2
func TestEverySplit(t *testing.T) {
	for _, data := range [][]byte{nil, []byte("Wikipedia"), bytes.Repeat([]byte{255}, 300), make([]byte, 40), mixed(600, 11)} {
		for at := range len(data) + 1 {
			checkSplit(t, data[:at], data[at:])
		}
	}
}

// P3.1, P3.2
func TestSplitsAtTheModulus(t *testing.T) {
	for _, data := range [][]byte{mixed(200000, 5), bytes.Repeat([]byte{255}, 200000)} {
		for _, at := range []int{0, 1, 65519, 65520, 65521, 65522, 65535, 65536, 134479, 134480, 199999, 200000} {
			checkSplit(t, data[:at], data[at:])
		}
	}
	noughtAt := append(bytes.Repeat([]byte{255}, 256), 240)
	for _, y := range edgeSequences() {
		checkSplit(t, noughtAt, y)
		checkSplit(t, y, noughtAt)
	}
}

// P3.1: as many calls as there are bytes come to the same as one.
func TestUpdateByteByByte(t *testing.T) {
	data := mixed(70000, 23)
	sum := Sum(nil)
	for i := range data {
		sum = Update(sum, data[i:i+1])
	}
	if sum != Sum(data) {
		t.Errorf("%d; want %d", sum, Sum(data))
	}
}

// P3.2: numbers worked out by hand.
func TestJoinOfKnownSums(t *testing.T) {
	for _, c := range []struct {
		a, b uint32
		n    uint64
		want uint32
	}{
		{1, 1, 0, 1},
		{Sum([]byte("Wiki")), Sum([]byte("pedia")), 5, 300286872},
		{Sum([]byte("Wikipedia")), 1, 0, 300286872},
		{1, Sum([]byte("Wikipedia")), 9, 300286872},
		{2<<16 + 2, 3<<16 + 3, 1, 6<<16 + 4},
		{1, 2<<16 + 1, 2, 2<<16 + 1},
		{0, 1<<16 + 1, 1, 0},
		{65520<<16 + 65520, 1, 0, 65520<<16 + 65520},
		{65520<<16 + 65520, 65520<<16 + 1, 65520, 65520},
		{65520<<16 + 65520, 1, 65521, 65520<<16 + 65520},
	} {
		if got := Join(c.a, c.b, c.n); got != c.want {
			t.Errorf("Join(%d, %d, %d) = %d; want %d", c.a, c.b, c.n, got, c.want)
		}
	}
}

// P3.2: a length counts whole, also from 65521 and from 2^32 on. So many
// noughts have the sum 1 and, above it, their number.
func TestJoinOfManyNoughts(t *testing.T) {
	for _, n := range []uint64{0, 1, 65520, 65521, 65522, 65536, 131042, 1<<31 - 1, 1 << 31, 1<<32 - 1, 1 << 32, 1<<32 + 1, 1 << 48, 1<<63 - 1, 1 << 63, math.MaxUint64 - 1, math.MaxUint64} {
		noughts := uint32(n%modulus)<<16 + 1
		for _, sum := range edgeSums() {
			if got, want := Join(sum, noughts, n), joined(sum, noughts, n); got != want {
				t.Errorf("Join(%d, %d, %d) = %d; want %d", sum, noughts, n, got, want)
			}
		}
	}
}

// P3.2: as Update does, Join takes each half modulo 65521.
func TestJoinOfEdgeSums(t *testing.T) {
	for _, a := range edgeSums() {
		for _, b := range edgeSums() {
			for _, n := range []uint64{0, 1, 65520, 65521, math.MaxUint64} {
				if got, want := Join(a, b, n), joined(a, b, n); got != want {
					t.Fatalf("Join(%d, %d, %d) = %d; want %d", a, b, n, got, want)
				}
			}
		}
	}
}

// P3.2: three sequences come to the same sum, whichever two are joined first.
func TestJoinOfThree(t *testing.T) {
	x, y, z := mixed(300, 1), mixed(66000, 2), mixed(1000, 3)
	want := Sum(slices.Concat(x, y, z))
	left := Join(Join(Sum(x), Sum(y), 66000), Sum(z), 1000)
	right := Join(Sum(x), Join(Sum(y), Sum(z), 1000), 67000)
	if left != want || right != want {
		t.Error(left, right, want)
	}
}

// P2, with the rules that arguments aren't changed and that elements beyond a
// slice's length aren't read.
func TestTheSameCallAnswersTheSame(t *testing.T) {
	full := mixed(64, 9)
	kept := slices.Clone(full)
	data := full[:32]
	want := following(1, data)
	for range 3 {
		if Sum(data) != want || Update(1, data) != want || Join(1, want, 32) != want {
			t.Error("another answer")
		}
		Sum([]byte("something else"))
		Update(math.MaxUint32, full)
	}
	if !bytes.Equal(full, kept) {
		t.Error("the argument was changed")
	}
	for i := range full[32:] {
		full[32+i]++
	}
	if Sum(data) != want {
		t.Error("what lies beyond the length counts")
	}
}

// P1: whatever comes, the calls end, and what they answer is the checksum.
func FuzzEveryCallEnds(f *testing.F) {
	f.Add([]byte("Wiki"), []byte("pedia"), uint32(1), uint32(1), uint64(5))
	f.Add([]byte{}, []byte{255}, uint32(math.MaxUint32), uint32(65521), uint64(math.MaxUint64))
	f.Fuzz(func(t *testing.T, x, y []byte, a, b uint32, n uint64) {
		keptX, keptY := slices.Clone(x), slices.Clone(y)
		checkSplit(t, x, y)
		if got, want := Update(a, x), following(a, x); got != want {
			t.Errorf("Update(%d, %v) = %d; want %d", a, x, got, want)
		}
		if got, want := Join(a, b, n), joined(a, b, n); got != want {
			t.Errorf("Join(%d, %d, %d) = %d; want %d", a, b, n, got, want)
		}
		if !bytes.Equal(x, keptX) || !bytes.Equal(y, keptY) {
			t.Error("an argument was changed")
		}
	})
}
