package bits

import (
	"bytes"
	"fmt"
	"math"
	"slices"
	"strconv"
	"strings"
	"testing"

	"mezzotint/api"
)

var orders = []bool{false, true}

var wrongCounts = []int{math.MinInt, math.MinInt + 1, math.MinInt32, -256, -64, -33, -32, -8, -1, 33, 34, 40, 63, 64, 65, 256, 1 << 31, 1 << 32, 1<<32 + 8, math.MaxInt - 1, math.MaxInt}

// varied are bytes that look different at each place and from either end.
var varied = []byte{0xa5, 0x0f, 0x13, 0xff, 0x00, 0x80, 0x01, 0xc8, 0x6d}

// turn is a text with its characters in reverse order.
func turn(s string) string {
	b := []byte(s)
	slices.Reverse(b)
	return string(b)
}

// textOf is the bits of bytes as a text of 0 and 1.
func textOf(b []byte, low bool) string {
	var s strings.Builder
	for _, c := range b {
		eight := fmt.Sprintf("%08b", c)
		if low {
			eight = turn(eight)
		}
		s.WriteString(eight)
	}
	return s.String()
}

// bytesOf is the bytes that have the bits of a text; the last one is filled up.
func bytesOf(text string, low bool) []byte {
	var b []byte
	for len(text) > 0 {
		eight := (text + "0000000")[:8]
		text = text[min(8, len(text)):]
		b = append(b, byte(numberOf(eight, low)))
	}
	return b
}

// numberOf is a group of bits taken as a number.
func numberOf(group string, low bool) uint32 {
	if low {
		group = turn(group)
	}
	v, _ := strconv.ParseUint("0"+group, 2, 32)
	return uint32(v)
}

// groupOf is the bits of a number that is written as n bits.
func groupOf(v uint32, n int, low bool) string {
	group := fmt.Sprintf("%032b", v)[32-n:]
	if low {
		return turn(group)
	}
	return group
}

// edgeNumbers are the numbers of 32 bits around each power of two.
func edgeNumbers() []uint32 {
	numbers := []uint32{0, 5, 6, 0xa5, 0x12345678, 0x87654321, 0xfffefdfc, math.MaxUint32}
	for i := range 32 {
		p := uint32(1) << i
		numbers = append(numbers, p-1, p, p+1)
	}
	return numbers
}

// readerAt is a reader of which so many bits were read.
func readerAt(t *testing.T, b []byte, low bool, at int) *Reader {
	t.Helper()
	r := NewReader(b, low)
	for range at {
		if _, err := r.Read(1); err != api.OK {
			t.Fatal(err)
		}
	}
	return r
}

// checkPlace holds At and Left of a reader against what they must be.
func checkPlace(t *testing.T, r *Reader, at, left int) {
	t.Helper()
	if r.At() != at || r.Left() != left {
		t.Errorf("At %d, Left %d; want %d, %d", r.At(), r.Left(), at, left)
	}
}

// checkWritten holds Len and Bytes of a writer against the bits that it must have.
func checkWritten(t *testing.T, w *Writer, text string, low bool) {
	t.Helper()
	if w.Len() != len(text) || !bytes.Equal(w.Bytes(), bytesOf(text, low)) {
		t.Errorf("low %t: Len %d, Bytes %x; want %d, %x", low, w.Len(), w.Bytes(), len(text), bytesOf(text, low))
	}
}

// P2.1
func TestTheDocumentsExamples(t *testing.T) {
	if v, err := NewReader([]byte{160}, false).Read(3); v != 5 || err != api.OK {
		t.Error(v, err)
	}
	if v, err := NewReader([]byte{5}, true).Read(3); v != 5 || err != api.OK {
		t.Error(v, err)
	}
}

// P2.1
func TestReadInEitherOrder(t *testing.T) {
	for _, c := range []struct {
		low  bool
		n    int
		want []uint32
	}{
		{false, 1, []uint32{1, 0, 1, 0, 0, 1, 0, 1, 0, 0, 0, 0, 1, 1, 1, 1}},
		{true, 1, []uint32{1, 0, 1, 0, 0, 1, 0, 1, 1, 1, 1, 1, 0, 0, 0, 0}},
		{false, 4, []uint32{0xa, 0x5, 0x0, 0xf}},
		{true, 4, []uint32{0x5, 0xa, 0xf, 0x0}},
		{false, 5, []uint32{20, 20, 7}},
		{true, 5, []uint32{5, 29, 3}},
		{false, 8, []uint32{0xa5, 0x0f}},
		{true, 8, []uint32{0xa5, 0x0f}},
		{false, 12, []uint32{0xa50}},
		{true, 12, []uint32{0xfa5}},
		{false, 16, []uint32{0xa50f}},
		{true, 16, []uint32{0x0fa5}},
		{false, 17, nil},
		{true, 32, nil},
	} {
		r := NewReader([]byte{0xa5, 0x0f}, c.low)
		for i, want := range c.want {
			if v, err := r.Read(c.n); v != want || err != api.OK {
				t.Errorf("low %t, Read(%d), number %d = %d, %d; want %d", c.low, c.n, i, v, err, want)
			}
		}
		at := len(c.want) * c.n
		if v, err := r.Read(c.n); v != 0 || err != api.ErrCut {
			t.Errorf("low %t, Read(%d) at the end = %d, %d; want ErrCut", c.low, c.n, v, err)
		}
		checkPlace(t, r, at, 16-at)
	}
}

// P2.1: 0 to 32 bits at once, amid the bytes, at their end and beyond it.
func TestPeekAndReadAtEveryPlace(t *testing.T) {
	for _, low := range orders {
		text := textOf(varied, low)
		ahead := text + strings.Repeat("0", 32)
		for at := range len(text) + 1 {
			for n := range 33 {
				r := readerAt(t, varied, low, at)
				left := len(text) - at
				want := numberOf(ahead[at:at+n], low)
				for range 2 {
					if v, err := r.Peek(n); v != want || err != api.OK {
						t.Fatalf("low %t, at %d: Peek(%d) = %x, %d; want %x", low, at, n, v, err, want)
					}
					checkPlace(t, r, at, left)
				}
				v, err := r.Read(n)
				if n > left {
					if v != 0 || err != api.ErrCut {
						t.Fatalf("low %t, at %d: Read(%d) = %x, %d; want ErrCut", low, at, n, v, err)
					}
					checkPlace(t, r, at, left)
					continue
				}
				if v != want || err != api.OK {
					t.Fatalf("low %t, at %d: Read(%d) = %x, %d; want %x", low, at, n, v, err, want)
				}
				checkPlace(t, r, at+n, left-n)
			}
		}
	}
}

// P2.1: the bits that are there stay where they are among those beyond the end.
func TestPeekBeyondTheEnd(t *testing.T) {
	high := readerAt(t, []byte{0xff}, false, 5)
	if v, err := high.Peek(32); v != 0xe0000000 || err != api.OK {
		t.Errorf("%x, %d", v, err)
	}
	low := readerAt(t, []byte{0xff}, true, 5)
	if v, err := low.Peek(32); v != 7 || err != api.OK {
		t.Errorf("%x, %d", v, err)
	}
	for _, r := range []*Reader{high, low} {
		if v, err := r.Read(4); v != 0 || err != api.ErrCut {
			t.Error(v, err)
		}
		if v, err := r.Read(3); v != 7 || err != api.OK {
			t.Error(v, err)
		}
		if v, err := r.Peek(32); v != 0 || err != api.OK {
			t.Error(v, err)
		}
		checkPlace(t, r, 8, 0)
	}
}

// P2.1: a wrong count comes before the end of the bits, and nothing is read with it.
func TestReaderWithWrongCounts(t *testing.T) {
	for _, low := range orders {
		for _, at := range []int{0, 1, 8, 70, 72} {
			r := readerAt(t, varied, low, at)
			for _, n := range wrongCounts {
				if v, err := r.Peek(n); v != 0 || err != api.ErrArg {
					t.Errorf("at %d: Peek(%d) = %d, %d; want ErrArg", at, n, v, err)
				}
				if v, err := r.Read(n); v != 0 || err != api.ErrArg {
					t.Errorf("at %d: Read(%d) = %d, %d; want ErrArg", at, n, v, err)
				}
				checkPlace(t, r, at, 72-at)
			}
		}
	}
}

// P2.1
func TestReaderAlign(t *testing.T) {
	for _, low := range orders {
		for at := range 73 {
			r := readerAt(t, varied, low, at)
			want := at
			for want%8 != 0 {
				want++
			}
			for range 2 {
				r.Align()
				checkPlace(t, r, want, 72-want)
			}
			if want == 72 {
				continue
			}
			if v, err := r.Read(8); v != uint32(varied[want/8]) || err != api.OK {
				t.Errorf("low %t, aligned at %d: %d, %d", low, at, v, err)
			}
		}
	}
}

// P2.1
func TestReadersWithoutBits(t *testing.T) {
	for i, r := range []*Reader{nil, NewReader(nil, false), NewReader(nil, true), NewReader([]byte{}, true), NewReader(varied[:0], false), {}} {
		for n := range 33 {
			if v, err := r.Peek(n); v != 0 || err != api.OK {
				t.Errorf("reader %d: Peek(%d) = %d, %d", i, n, v, err)
			}
			want := api.ErrCut
			if n == 0 {
				want = api.OK
			}
			if v, err := r.Read(n); v != 0 || err != want {
				t.Errorf("reader %d: Read(%d) = %d, %d; want %d", i, n, v, err, want)
			}
		}
		for _, n := range wrongCounts {
			if v, err := r.Peek(n); v != 0 || err != api.ErrArg {
				t.Errorf("reader %d: Peek(%d) = %d, %d", i, n, v, err)
			}
			if v, err := r.Read(n); v != 0 || err != api.ErrArg {
				t.Errorf("reader %d: Read(%d) = %d, %d", i, n, v, err)
			}
		}
		r.Align()
		checkPlace(t, r, 0, 0)
	}
}

// P2.1, with the rules that an argument is neither kept nor changed, nor read beyond its length.
func TestReaderKeepsItsOwnBytes(t *testing.T) {
	for _, low := range orders {
		b := []byte{0x11, 0x22, 0xff, 0xff}
		r, other := NewReader(b[:2], low), NewReader(b[:2], low)
		if v, _ := r.Peek(32); v != numberOf(textOf([]byte{0x11, 0x22, 0, 0}, low), low) {
			t.Errorf("%x", v)
		}
		b[0], b[1] = 0xff, 0xff
		for _, want := range []uint32{0x11, 0x22} {
			if v, err := r.Read(8); v != want || err != api.OK {
				t.Errorf("%x, %d; want %x", v, err, want)
			}
		}
		checkPlace(t, r, 16, 0)
		checkPlace(t, other, 0, 16)
		if !bytes.Equal(b, []byte{0xff, 0xff, 0xff, 0xff}) {
			t.Errorf("%x", b)
		}
	}
}

// P2.2
func TestWriteInEitherOrder(t *testing.T) {
	type item struct {
		v uint32
		n int
	}
	for _, c := range []struct {
		items     []item
		high, low []byte
	}{
		{nil, nil, nil},
		{[]item{{0, 0}}, nil, nil},
		{[]item{{1, 1}}, []byte{0x80}, []byte{0x01}},
		{[]item{{5, 3}}, []byte{0xa0}, []byte{0x05}},
		{[]item{{0, 8}}, []byte{0}, []byte{0}},
		{[]item{{0, 9}}, []byte{0, 0}, []byte{0, 0}},
		{[]item{{5, 3}, {0, 0}, {9, 4}, {0x1f0, 9}}, []byte{0xb3, 0xf0}, []byte{0x4d, 0xf8}},
		{[]item{{0x12345678, 32}}, []byte{0x12, 0x34, 0x56, 0x78}, []byte{0x78, 0x56, 0x34, 0x12}},
		{[]item{{1, 4}, {0x23456789, 32}, {10, 4}}, []byte{0x12, 0x34, 0x56, 0x78, 0x9a}, []byte{0x91, 0x78, 0x56, 0x34, 0xa2}},
	} {
		high, low := NewWriter(false), NewWriter(true)
		total := 0
		for _, x := range c.items {
			if err := high.Write(x.v, x.n); err != api.OK {
				t.Error(x, err)
			}
			if err := low.Write(x.v, x.n); err != api.OK {
				t.Error(x, err)
			}
			total += x.n
		}
		if high.Len() != total || !bytes.Equal(high.Bytes(), c.high) {
			t.Errorf("%v: %d bits, %x; want %x", c.items, high.Len(), high.Bytes(), c.high)
		}
		if low.Len() != total || !bytes.Equal(low.Bytes(), c.low) {
			t.Errorf("%v with low: %d bits, %x; want %x", c.items, low.Len(), low.Bytes(), c.low)
		}
	}
}

// P2.2
func TestWriteEveryCountAtEveryPlace(t *testing.T) {
	for _, low := range orders {
		for ahead := range 17 {
			for n := range 33 {
				for _, v := range edgeNumbers() {
					start := "1011001110001111"[:ahead]
					w := NewWriter(low)
					w.Word(start)
					err := w.Write(v, n)
					if uint64(v) >= 1<<n {
						if err != api.ErrOver {
							t.Fatalf("Write(%d, %d) = %d; want ErrOver", v, n, err)
						}
						checkWritten(t, w, start, low)
						continue
					}
					if err != api.OK {
						t.Fatalf("Write(%d, %d) = %d", v, n, err)
					}
					w.Word("1")
					checkWritten(t, w, start+groupOf(v, n, low)+"1", low)
				}
			}
		}
	}
}

// P2.2: the greatest number of so many bits fits, and the next one doesn't.
func TestWriteAroundTheGreatestOfACount(t *testing.T) {
	for _, low := range orders {
		for n := range 32 {
			w := NewWriter(low)
			for _, v := range []uint32{1 << n, 1<<n + 1, math.MaxUint32} {
				if err := w.Write(v, n); err != api.ErrOver || w.Len() != 0 || len(w.Bytes()) != 0 {
					t.Errorf("Write(%d, %d) = %d, %x; want ErrOver", v, n, err, w.Bytes())
				}
			}
			if err := w.Write(1<<n-1, n); err != api.OK {
				t.Errorf("Write(%d, %d) = %d", 1<<n-1, n, err)
			}
			checkWritten(t, w, strings.Repeat("1", n), low)
		}
		w := NewWriter(low)
		if err := w.Write(math.MaxUint32, 32); err != api.OK {
			t.Error(err)
		}
		checkWritten(t, w, strings.Repeat("1", 32), low)
	}
}

// P2.2: a wrong count comes before a number that is too great, and nothing is written with it.
func TestWriterWithWrongCounts(t *testing.T) {
	for _, low := range orders {
		w := NewWriter(low)
		w.Word("101")
		for _, n := range wrongCounts {
			for _, v := range []uint32{0, 1, math.MaxUint32} {
				if err := w.Write(v, n); err != api.ErrArg {
					t.Errorf("Write(%d, %d) = %d; want ErrArg", v, n, err)
				}
				checkWritten(t, w, "101", low)
			}
		}
	}
}

// P2.2
func TestWord(t *testing.T) {
	long := strings.Repeat("1101000", 40)
	for _, low := range orders {
		for _, s := range []string{"", "0", "1", "01", "10", "0000000", "11111111", "100000001", long} {
			for ahead := range 9 {
				w := NewWriter(low)
				w.Word("11010011"[:ahead])
				if err := w.Word(s); err != api.OK {
					t.Errorf("Word(%q) = %d", s, err)
				}
				checkWritten(t, w, "11010011"[:ahead]+s, low)
			}
		}
	}
	w := NewWriter(true)
	w.Word("1000000011")
	if b := w.Bytes(); !bytes.Equal(b, []byte{1, 3}) {
		t.Errorf("%x", b)
	}
}

// P2.2: a word with any wrong byte, wherever it is, leaves the writer as it was.
func TestWordWithOtherCharacters(t *testing.T) {
	for _, low := range orders {
		w := NewWriter(low)
		w.Word("011")
		for c := range 256 {
			if c == '0' || c == '1' {
				continue
			}
			wrong := string([]byte{byte(c)})
			for _, s := range []string{wrong, wrong + "01", "01" + wrong, "0" + wrong + "1", strings.Repeat("10", 50) + wrong} {
				if err := w.Word(s); err != api.ErrForm {
					t.Errorf("Word(%q) = %d; want ErrForm", s, err)
				}
			}
		}
		for _, s := range []string{"\u0660", "\uff10\uff11", "0 1", "0x1", "+1", "0\n"} {
			if err := w.Word(s); err != api.ErrForm {
				t.Errorf("Word(%q) = %d; want ErrForm", s, err)
			}
		}
		checkWritten(t, w, "011", low)
	}
}

// P2.2
func TestWriterAlign(t *testing.T) {
	text := "1011001110001111010111001"
	for _, low := range orders {
		for n := range len(text) + 1 {
			w := NewWriter(low)
			w.Word(text[:n])
			want := text[:n]
			for len(want)%8 != 0 {
				want += "0"
			}
			for range 2 {
				w.Align()
				checkWritten(t, w, want, low)
			}
			w.Write(1, 1)
			checkWritten(t, w, want+"1", low)
		}
	}
}

// P2.2
func TestNilWriter(t *testing.T) {
	var w *Writer
	for range 2 {
		for n := range 33 {
			if err := w.Write(0, n); err != api.ErrArg {
				t.Errorf("Write(0, %d) = %d; want ErrArg", n, err)
			}
		}
		for n := range 32 {
			if err := w.Write(1<<n, n); err != api.ErrOver {
				t.Errorf("Write(%d, %d) = %d; want ErrOver", 1<<n, n, err)
			}
		}
		for _, n := range wrongCounts {
			if err := w.Write(math.MaxUint32, n); err != api.ErrArg {
				t.Errorf("Write(%d) = %d; want ErrArg", n, err)
			}
		}
		for _, s := range []string{"", "0", "1", "0101"} {
			if err := w.Word(s); err != api.ErrArg {
				t.Errorf("Word(%q) = %d; want ErrArg", s, err)
			}
		}
		for _, s := range []string{"2", "01x", " "} {
			if err := w.Word(s); err != api.ErrForm {
				t.Errorf("Word(%q) = %d; want ErrForm", s, err)
			}
		}
		w.Align()
		if w.Len() != 0 || len(w.Bytes()) != 0 {
			t.Error(w.Len(), w.Bytes())
		}
	}
}

// P2.2, with the rule that results share no memory: what is done to bytes that were returned changes nothing.
func TestBytesAreACopy(t *testing.T) {
	for _, low := range orders {
		w := NewWriter(low)
		text := ""
		for i := range 40 {
			n := i % 13
			v := uint32(1)<<n - 1
			if err := w.Write(v, n); err != api.OK {
				t.Fatal(err)
			}
			text += groupOf(v, n, low)
			earlier := w.Bytes()
			w.Write(0x2d, 6)
			text += groupOf(0x2d, 6, low)
			if !bytes.Equal(earlier, bytesOf(text[:len(text)-6], low)) {
				t.Errorf("%x", earlier)
			}
			for j := range earlier {
				earlier[j] = 0xff
			}
			_ = append(earlier, 0xff, 0xff)
			checkWritten(t, w, text, low)
		}
	}
}

// P2.2
func TestWritersAreApart(t *testing.T) {
	one, other := NewWriter(false), NewWriter(true)
	one.Write(6, 3)
	other.Write(1, 2)
	one.Word("1")
	checkWritten(t, one, "1101", false)
	checkWritten(t, other, "10", true)
}

// P2.3
func TestReverse(t *testing.T) {
	for _, c := range []struct{ c, want byte }{{0, 0}, {1, 0x80}, {0x80, 1}, {0x13, 0xc8}, {0x0f, 0xf0}, {0xa5, 0xa5}, {0x6d, 0xb6}, {0xfe, 0x7f}, {0xff, 0xff}} {
		if got := Reverse(c.c); got != c.want {
			t.Errorf("Reverse(%x) = %x; want %x", c.c, got, c.want)
		}
	}
	for c := range 256 {
		want, _ := strconv.ParseUint(turn(fmt.Sprintf("%08b", c)), 2, 8)
		if got := Reverse(byte(c)); uint64(got) != want {
			t.Errorf("Reverse(%x) = %x; want %x", c, got, want)
		}
	}
}

// P2.3, with the rules that the argument isn't changed, and the result shares nothing with it.
func TestReverseAll(t *testing.T) {
	for _, b := range [][]byte{nil, {}, varied[:0]} {
		if got := ReverseAll(b); len(got) != 0 {
			t.Error(got)
		}
	}
	all := make([]byte, 256)
	want := make([]byte, 256)
	for i := range 256 {
		all[i] = byte(i)
		want[i] = Reverse(byte(i))
	}
	kept := slices.Clone(all)
	got := ReverseAll(all)
	if !bytes.Equal(got, want) || !bytes.Equal(all, kept) {
		t.Errorf("%x", got)
	}
	if part := ReverseAll(all[3:7]); !bytes.Equal(part, want[3:7]) {
		t.Errorf("%x", part)
	}
	same := []byte{0, 0xff, 0x18}
	turned := ReverseAll(same)
	turned[0] = 77
	_ = append(turned, 77)
	if !bytes.Equal(same, []byte{0, 0xff, 0x18}) {
		t.Errorf("%x", same)
	}
}

// P2.4
func TestWhatIsWrittenIsRead(t *testing.T) {
	for _, low := range orders {
		w := NewWriter(low)
		for _, v := range edgeNumbers() {
			for n := range 33 {
				w.Write(v&uint32(1<<n-1), n)
			}
		}
		r := NewReader(w.Bytes(), low)
		for _, v := range edgeNumbers() {
			for n := range 33 {
				want := v & uint32(1<<n-1)
				if got, err := r.Read(n); got != want || err != api.OK {
					t.Fatalf("low %t: Read(%d) = %x, %d; want %x", low, n, got, err, want)
				}
			}
		}
		if r.At() != w.Len() || r.Left() >= 8 {
			t.Error(r.At(), w.Len(), r.Left())
		}
	}
}

// P2.4
func TestReversedBytesInTheOtherOrder(t *testing.T) {
	for _, low := range orders {
		one, other := NewReader(varied, low), NewReader(ReverseAll(varied), !low)
		for i := range 72 {
			a, oneErr := one.Read(1)
			b, otherErr := other.Read(1)
			if a != b || oneErr != api.OK || otherErr != api.OK {
				t.Errorf("low %t, bit %d: %d, %d and %d, %d", low, i, a, oneErr, b, otherErr)
			}
		}
		checkPlace(t, other, 72, 0)
		word, turned := NewWriter(low), NewWriter(!low)
		word.Word("1101000111010")
		turned.Word("1101000111010")
		if !bytes.Equal(ReverseAll(word.Bytes()), turned.Bytes()) {
			t.Errorf("low %t: %x, %x", low, word.Bytes(), turned.Bytes())
		}
	}
}

// P2
func TestTheSameCallsAnswerTheSame(t *testing.T) {
	for _, low := range orders {
		var first []byte
		for i := range 3 {
			w := NewWriter(low)
			w.Write(0x155, 9)
			w.Word("011")
			w.Align()
			w.Write(3, 2)
			if i == 0 {
				first = w.Bytes()
			}
			if !bytes.Equal(w.Bytes(), first) || w.Len() != 18 {
				t.Errorf("%x, %x", w.Bytes(), first)
			}
			r := NewReader(first, low)
			if v, err := r.Read(9); v != 0x155 || err != api.OK {
				t.Error(v, err)
			}
		}
	}
}

// checkReader does to a reader what the bytes of a script say, and holds it against a text of its bits.
func checkReader(t *testing.T, b []byte, low bool, script []byte) {
	t.Helper()
	text := textOf(b, low)
	r := NewReader(b, low)
	at := 0
	for _, c := range script {
		n := int(c%40) - 3
		left := len(text) - at
		v, err := r.Peek(n)
		switch {
		case n < 0 || n > 32:
			if v != 0 || err != api.ErrArg {
				t.Fatal("Peek", n, v, err)
			}
		case v != numberOf((text + strings.Repeat("0", 32))[at:at+n], low) || err != api.OK:
			t.Fatal("Peek", n, v, err)
		}
		if c >= 200 {
			r.Align()
			at = (at + 7) / 8 * 8
		} else if got, err := r.Read(n); n < 0 || n > 32 {
			if got != 0 || err != api.ErrArg {
				t.Fatal("Read", n, got, err)
			}
		} else if n > left {
			if got != 0 || err != api.ErrCut {
				t.Fatal("Read", n, got, err)
			}
		} else if at += n; got != v || err != api.OK {
			t.Fatal("Read", n, got, err)
		}
		checkPlace(t, r, at, len(text)-at)
	}
}

// checkWriter does likewise to a writer.
func checkWriter(t *testing.T, v uint32, word string, low bool, script []byte) {
	t.Helper()
	w := NewWriter(low)
	text := ""
	for _, c := range script {
		n := int(c%40) - 3
		if c >= 220 {
			w.Align()
			text += strings.Repeat("0", (8-len(text)%8)%8)
		} else if c >= 200 {
			err := w.Word(word)
			if right := strings.Trim(word, "01") == ""; right != (err == api.OK) || !right && err != api.ErrForm {
				t.Fatal("Word", word, err)
			} else if right {
				text += word
			}
		} else if err := w.Write(v, n); n < 0 || n > 32 {
			if err != api.ErrArg {
				t.Fatal("Write", v, n, err)
			}
		} else if uint64(v) >= 1<<n {
			if err != api.ErrOver {
				t.Fatal("Write", v, n, err)
			}
		} else if text += groupOf(v, n, low); err != api.OK {
			t.Fatal("Write", v, n, err)
		}
		checkWritten(t, w, text, low)
	}
}

// P1: whatever comes in whatever order, the calls end, and answer as the bits say.
func FuzzEveryCallEnds(f *testing.F) {
	f.Add([]byte{0xa5, 0x0f, 0x77, 0x00, 0x3c}, uint32(5), "0110", false, []byte{6, 3, 9, 200, 11, 255, 35, 36, 0})
	f.Add([]byte{0xa5, 0x0f, 0x77, 0x00, 0x3c}, uint32(0xfedc), "01x", true, []byte{20, 201, 230, 35, 1, 4, 210, 39})
	f.Add([]byte{}, uint32(math.MaxUint32), "", true, []byte{35, 35, 3, 220})
	f.Fuzz(func(t *testing.T, b []byte, v uint32, word string, low bool, script []byte) {
		kept := slices.Clone(b)
		script = script[:min(len(script), 100)]
		checkReader(t, b, low, script)
		checkWriter(t, v, word, low, script)
		if !bytes.Equal(ReverseAll(ReverseAll(b)), kept) || !bytes.Equal(b, kept) {
			t.Error("ReverseAll", b)
		}
	})
}
