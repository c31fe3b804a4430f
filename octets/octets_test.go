package octets

import (
	"bytes"
	"math"
	"math/big"
	"slices"
	"testing"

	"mezzotint/api"
)

const most = math.MaxUint64

var sizes = []int{1, 2, 4, 8}

var wrongSizes = []int{math.MinInt, math.MinInt + 1, -8, -4, -2, -1, 0, 3, 5, 6, 7, 9, 10, 16, 32, 64, 256, 257, math.MaxInt - 1, math.MaxInt}

// edgeNumbers are the numbers around each power of two, and those around the
// square root of 2^64 that aren't powers.
func edgeNumbers() []uint64 {
	numbers := []uint64{0, 3, 5, 6, 7, 10, 255, 641, 6700417, 0x0102030405060708, 0xfedcba9876543210, most / 3, most / 5, most - 1, most}
	for i := range 64 {
		p := uint64(1) << i
		numbers = append(numbers, p-1, p, p+1)
	}
	return numbers
}

// exact is what a sum or a product must answer, worked out without bounds.
func exact(n *big.Int) (uint64, api.Errno) {
	if !n.IsUint64() {
		return 0, api.ErrOver
	}
	return n.Uint64(), api.OK
}

func whole(n uint64) *big.Int { return new(big.Int).SetUint64(n) }

// checkSumAndProduct holds Add and Mul of two numbers against exact arithmetic.
func checkSumAndProduct(t *testing.T, a, b uint64) {
	t.Helper()
	want, wantErr := exact(new(big.Int).Add(whole(a), whole(b)))
	if got, err := Add(a, b); got != want || err != wantErr {
		t.Errorf("Add(%d, %d) = %d, %d; want %d, %d", a, b, got, err, want, wantErr)
	}
	want, wantErr = exact(new(big.Int).Mul(whole(a), whole(b)))
	if got, err := Mul(a, b); got != want || err != wantErr {
		t.Errorf("Mul(%d, %d) = %d, %d; want %d, %d", a, b, got, err, want, wantErr)
	}
}

// P1.1
func TestAddAndMulAreExactOrOver(t *testing.T) {
	for _, a := range edgeNumbers() {
		for _, b := range edgeNumbers() {
			checkSumAndProduct(t, a, b)
		}
	}
}

// P1.1
func TestAddAroundTheBound(t *testing.T) {
	for _, c := range []struct {
		a, b, want uint64
		err        api.Errno
	}{
		{0, 0, 0, api.OK},
		{2, 3, 5, api.OK},
		{most, 0, most, api.OK},
		{0, most, most, api.OK},
		{most - 1, 1, most, api.OK},
		{1 << 63, 1<<63 - 1, most, api.OK},
		{1 << 63, 1 << 63, 0, api.ErrOver},
		{most, 1, 0, api.ErrOver},
		{1, most, 0, api.ErrOver},
		{most, most, 0, api.ErrOver},
	} {
		if got, err := Add(c.a, c.b); got != c.want || err != c.err {
			t.Errorf("Add(%d, %d) = %d, %d; want %d, %d", c.a, c.b, got, err, c.want, c.err)
		}
	}
}

// P1.1
func TestMulAroundTheBound(t *testing.T) {
	for _, c := range []struct {
		a, b, want uint64
		err        api.Errno
	}{
		{0, 0, 0, api.OK},
		{0, most, 0, api.OK},
		{most, 0, 0, api.OK},
		{6, 7, 42, api.OK},
		{1, most, most, api.OK},
		{most, 1, most, api.OK},
		{1 << 32, 1<<32 - 1, most - (1<<32 - 1), api.OK},
		{1<<32 + 1, 1<<32 - 1, most, api.OK},
		{641, 28778071877862015, 641 * 28778071877862015, api.OK},
		{1 << 32, 1 << 32, 0, api.ErrOver},
		{1 << 63, 2, 0, api.ErrOver},
		{2, 1 << 63, 0, api.ErrOver},
		{3, most/3 + 1, 0, api.ErrOver},
		{most, most, 0, api.ErrOver},
	} {
		if got, err := Mul(c.a, c.b); got != c.want || err != c.err {
			t.Errorf("Mul(%d, %d) = %d, %d; want %d, %d", c.a, c.b, got, err, c.want, c.err)
		}
	}
}

// P1.2
func TestWindow(t *testing.T) {
	b := []byte{10, 11, 12, 13, 14}
	for at := range uint64(8) {
		for n := range uint64(8) {
			got, err := Window(b, at, n)
			if at+n > 5 {
				if len(got) != 0 || err != api.ErrCut {
					t.Errorf("Window(%d, %d) = %v, %d; want ErrCut", at, n, got, err)
				}
				continue
			}
			if !bytes.Equal(got, b[at:at+n]) || err != api.OK {
				t.Errorf("Window(%d, %d) = %v, %d; want %v", at, n, got, err, b[at:at+n])
			}
		}
	}
}

// P1.2
func TestWindowOfNoBytes(t *testing.T) {
	for _, b := range [][]byte{nil, {}} {
		if got, err := Window(b, 0, 0); len(got) != 0 || err != api.OK {
			t.Errorf("Window(%v, 0, 0) = %v, %d", b, got, err)
		}
		if got, err := Window(b, 0, 1); len(got) != 0 || err != api.ErrCut {
			t.Errorf("Window(%v, 0, 1) = %v, %d", b, got, err)
		}
		if got, err := Window(b, 1, 0); len(got) != 0 || err != api.ErrCut {
			t.Errorf("Window(%v, 1, 0) = %v, %d", b, got, err)
		}
	}
}

// P1.2
func TestWindowNearTwoToThe64(t *testing.T) {
	b := []byte{1, 2, 3, 4}
	for _, c := range []struct{ at, n uint64 }{
		{most, 0}, {most, 1}, {most, 2}, {most, 5}, {most, most},
		{most - 1, 1}, {most - 1, 2}, {most - 3, 4}, {most - 3, 8},
		{0, most}, {1, most}, {2, most}, {4, most}, {4, most - 3},
		{1 << 63, 0}, {1 << 63, 1 << 63}, {0, 1 << 63}, {1, 1 << 63},
		{1 << 32, 1}, {1, 1 << 32},
	} {
		if got, err := Window(b, c.at, c.n); len(got) != 0 || err != api.ErrCut {
			t.Errorf("Window(%d, %d) = %v, %d; want ErrCut", c.at, c.n, got, err)
		}
	}
}

// P1.2, with the rule that results share no memory.
func TestWindowIsACopy(t *testing.T) {
	b := []byte{1, 2, 3, 4}
	first, _ := Window(b, 1, 2)
	second, _ := Window(b, 1, 2)
	first[0] = 99
	_ = append(first, 77)
	if !bytes.Equal(b, []byte{1, 2, 3, 4}) || !bytes.Equal(second, []byte{2, 3}) {
		t.Error(b, second)
	}
	b[2] = 55
	if !bytes.Equal(second, []byte{2, 3}) {
		t.Error(second)
	}
}

// P1.2, with the rule that elements beyond a slice's length aren't read.
func TestCapacityDoesNotCount(t *testing.T) {
	b := []byte{1, 2, 3, 4, 5, 6, 7, 8}[:3]
	if got, err := Window(b, 2, 2); len(got) != 0 || err != api.ErrCut {
		t.Error(got, err)
	}
	if got, err := Window(b, 4, 0); len(got) != 0 || err != api.ErrCut {
		t.Error(got, err)
	}
	if got, err := Get(b, 2, 2, true); got != 0 || err != api.ErrCut {
		t.Error(got, err)
	}
}

// P1.2
func TestGet(t *testing.T) {
	b := []byte{1, 2, 3, 4, 5, 6, 7, 0xf8, 0xff}
	for _, c := range []struct {
		at          uint64
		size        int
		big, little uint64
	}{
		{0, 1, 1, 1},
		{0, 2, 258, 513},
		{0, 4, 0x01020304, 0x04030201},
		{0, 8, 0x01020304050607f8, 0xf807060504030201},
		{1, 8, 0x020304050607f8ff, 0xfff8070605040302},
		{5, 4, 0x0607f8ff, 0xfff80706},
		{7, 2, 0xf8ff, 0xfff8},
		{8, 1, 0xff, 0xff},
	} {
		if got, err := Get(b, c.at, c.size, true); got != c.big || err != api.OK {
			t.Errorf("Get(%d, %d, big) = %x, %d; want %x", c.at, c.size, got, err, c.big)
		}
		if got, err := Get(b, c.at, c.size, false); got != c.little || err != api.OK {
			t.Errorf("Get(%d, %d, little) = %x, %d; want %x", c.at, c.size, got, err, c.little)
		}
	}
}

// P1.2
func TestGetIsCutWhereWindowIs(t *testing.T) {
	full := []byte{9, 8, 7, 6, 5, 4, 3, 2, 1, 0}
	places := []uint64{0, 1, 2, 3, 4, 5, 6, 7, 8, 9, 10, 11, 1 << 32, 1 << 63, most - 8, most - 7, most - 6, most - 4, most - 3, most - 2, most - 1, most}
	for length := range len(full) + 1 {
		b := full[:length]
		for _, at := range places {
			for _, size := range sizes {
				for _, big := range []bool{false, true} {
					_, want := Window(b, at, uint64(size))
					got, err := Get(b, at, size, big)
					if err != want || err != api.OK && got != 0 {
						t.Errorf("Get of %d bytes at %d, size %d = %d, %d; want error %d", length, at, size, got, err, want)
					}
				}
			}
		}
	}
}

// P1.2: a wrong size counts before the end of the bytes and before a number that is too great.
func TestWrongSizes(t *testing.T) {
	for _, size := range wrongSizes {
		for _, big := range []bool{false, true} {
			for _, b := range [][]byte{nil, {1}, make([]byte, 300)} {
				for _, at := range []uint64{0, 1, 300, most} {
					if got, err := Get(b, at, size, big); got != 0 || err != api.ErrArg {
						t.Errorf("Get of %d bytes at %d, size %d = %d, %d; want ErrArg", len(b), at, size, got, err)
					}
				}
			}
			for _, n := range []uint64{0, 1, 256, most} {
				if got, err := Put(n, size, big); len(got) != 0 || err != api.ErrArg {
					t.Errorf("Put(%d, %d) = %v, %d; want ErrArg", n, size, got, err)
				}
			}
		}
	}
}

// P1.2
func TestPut(t *testing.T) {
	for _, c := range []struct {
		n    uint64
		size int
		big  bool
		want []byte
	}{
		{0, 1, true, []byte{0}},
		{7, 1, false, []byte{7}},
		{255, 1, true, []byte{255}},
		{258, 2, true, []byte{1, 2}},
		{513, 2, false, []byte{1, 2}},
		{0x0102, 4, false, []byte{2, 1, 0, 0}},
		{0x0102, 4, true, []byte{0, 0, 1, 2}},
		{0xf1020304, 4, true, []byte{0xf1, 2, 3, 4}},
		{0x0102030405060708, 8, true, []byte{1, 2, 3, 4, 5, 6, 7, 8}},
		{0x0102030405060708, 8, false, []byte{8, 7, 6, 5, 4, 3, 2, 1}},
		{most, 8, true, []byte{255, 255, 255, 255, 255, 255, 255, 255}},
	} {
		if got, err := Put(c.n, c.size, c.big); !bytes.Equal(got, c.want) || err != api.OK {
			t.Errorf("Put(%d, %d, %t) = %v, %d; want %v", c.n, c.size, c.big, got, err, c.want)
		}
	}
}

// P1.2
func TestPutAroundTheGreatestOfASize(t *testing.T) {
	for _, c := range []struct {
		size     int
		greatest uint64
	}{{1, 1<<8 - 1}, {2, 1<<16 - 1}, {4, 1<<32 - 1}, {8, most}} {
		for _, big := range []bool{false, true} {
			if got, err := Put(c.greatest, c.size, big); !bytes.Equal(got, bytes.Repeat([]byte{255}, c.size)) || err != api.OK {
				t.Errorf("Put(%d, %d) = %v, %d", c.greatest, c.size, got, err)
			}
			for _, n := range edgeNumbers() {
				if n <= c.greatest {
					continue
				}
				if got, err := Put(n, c.size, big); len(got) != 0 || err != api.ErrOver {
					t.Errorf("Put(%d, %d) = %v, %d; want ErrOver", n, c.size, got, err)
				}
			}
		}
	}
}

// P1.3
func TestGetReturnsWhatPutWrote(t *testing.T) {
	for _, n := range edgeNumbers() {
		for _, size := range sizes {
			for _, big := range []bool{false, true} {
				b, err := Put(n, size, big)
				if err != api.OK {
					continue
				}
				if len(b) != size {
					t.Fatalf("Put(%d, %d) has %d bytes", n, size, len(b))
				}
				amid := slices.Concat([]byte{0xaa, 0x55, 0xff}, b, []byte{0xff, 0x55})
				if got, err := Get(amid, 3, size, big); got != n || err != api.OK {
					t.Errorf("Get of Put(%d, %d, %t) = %d, %d", n, size, big, got, err)
				}
			}
		}
	}
}

// P1.3
func TestTheOtherOrderIsReversed(t *testing.T) {
	for _, n := range edgeNumbers() {
		for _, size := range sizes {
			one, oneErr := Put(n, size, true)
			other, otherErr := Put(n, size, false)
			slices.Reverse(other)
			if !bytes.Equal(one, other) || oneErr != otherErr {
				t.Errorf("Put(%d, %d): %v, %d and, reversed, %v, %d", n, size, one, oneErr, other, otherErr)
			}
		}
	}
	b := []byte{1, 2, 0xf3, 4, 0x85, 6, 7, 0xff}
	for _, size := range sizes {
		turned := slices.Clone(b[:size])
		slices.Reverse(turned)
		one, _ := Get(b, 0, size, true)
		other, _ := Get(turned, 0, size, false)
		if one != other {
			t.Errorf("size %d: %x and, reversed, %x", size, one, other)
		}
	}
}

// P2, with the rules that arguments aren't changed and that results share nothing.
func TestTheSameCallAnswersTheSame(t *testing.T) {
	b := []byte{1, 2, 3, 4, 5, 6, 7, 8}
	kept := slices.Clone(b)
	for range 3 {
		n, err := Get(b, 0, 8, true)
		if n != 0x0102030405060708 || err != api.OK {
			t.Fatal(n, err)
		}
		put, err := Put(n, 8, true)
		if !bytes.Equal(put, kept) || err != api.OK {
			t.Fatal(put, err)
		}
		clear(put)
		window, err := Window(b, 0, 8)
		if !bytes.Equal(window, kept) || err != api.OK {
			t.Fatal(window, err)
		}
		clear(window)
	}
	if !bytes.Equal(b, kept) {
		t.Error(b)
	}
}

// P1: whatever bytes, places and sizes come, the calls end, and what they answer agrees.
func FuzzEveryCallEnds(f *testing.F) {
	f.Add([]byte{1, 2, 3}, uint64(0), uint64(2), 2, true)
	f.Add([]byte{}, uint64(most), uint64(most), -1, false)
	f.Fuzz(func(t *testing.T, b []byte, at, n uint64, size int, bigEnd bool) {
		kept := slices.Clone(b)
		checkSumAndProduct(t, at, n)
		end := new(big.Int).Add(whole(at), whole(n))
		window, err := Window(b, at, n)
		if cut := end.Cmp(whole(uint64(len(b)))) > 0; cut != (err == api.ErrCut) || !cut && uint64(len(window)) != n {
			t.Error("Window", window, err)
		}
		number, err := Get(b, at, size, bigEnd)
		if slices.Contains(sizes, size) == (err == api.ErrArg) {
			t.Error("Get", number, err)
		}
		if err == api.OK {
			if put, err := Put(number, size, bigEnd); !bytes.Equal(put, b[at:at+uint64(size)]) || err != api.OK {
				t.Error("Put", put, err)
			}
		}
		if put, err := Put(n, size, bigEnd); slices.Contains(sizes, size) == (err == api.ErrArg) || err != api.OK && len(put) != 0 {
			t.Error("Put", put, err)
		}
		if !bytes.Equal(b, kept) {
			t.Error("the argument was changed")
		}
	})
}
