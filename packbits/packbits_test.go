package packbits

import (
	"bytes"
	"math"
	"slices"
	"testing"

	"mezzotint/api"
)

// unpacked is what Decode must answer, by the chapter's words: byte for byte,
// with what the piece begun still awaits. Only between pieces is it asked how
// many bytes there are.
func unpacked(packed []byte, n int) ([]byte, int, api.Errno) {
	if n < 0 {
		return nil, 0, api.ErrArg
	}
	var plain []byte
	awaited, times := 0, 0
	for at := 0; ; at++ {
		if awaited == 0 && len(plain) > n {
			return nil, 0, api.ErrLong
		}
		if awaited == 0 && len(plain) == n {
			return plain, at, api.OK
		}
		if at == len(packed) {
			return nil, 0, api.ErrCut
		}
		c := packed[at]
		switch {
		case awaited > 0:
			for range times {
				plain = append(plain, c)
			}
			awaited--
		case c <= 127:
			awaited, times = int(c)+1, 1
		case c >= 129:
			awaited, times = 1, 257-int(c)
		}
	}
}

// mixed is n bytes that follow no simple pattern, the same for the same seed.
// Few letters make many short runs.
func mixed(n int, seed uint32, letters int) []byte {
	data := make([]byte, n)
	for i := range data {
		seed = seed*1664525 + 1013904223
		data[i] = byte(int(seed>>24) * letters >> 8)
	}
	return data
}

// different is n bytes, no two neighbours of which are equal.
func different(n int) []byte {
	data := make([]byte, n)
	for i := range data {
		data[i] = byte(i)
	}
	return data
}

// checkDecode holds Decode against the chapter's words.
func checkDecode(t *testing.T, packed []byte, n int) {
	t.Helper()
	plain, used, err := Decode(packed, n)
	wantPlain, wantUsed, wantErr := unpacked(packed, n)
	if !bytes.Equal(plain, wantPlain) || used != wantUsed || err != wantErr {
		t.Fatalf("Decode(%v, %d) = %v, %d, %d; want %v, %d, %d", packed, n, plain, used, err, wantPlain, wantUsed, wantErr)
	}
}

// checkEncode asks whether bytes come back from their packed form, all of which
// is taken, and whether that is short enough.
func checkEncode(t *testing.T, data []byte) {
	t.Helper()
	packed := Encode(data)
	if most := len(data) + (len(data)+127)/128; len(packed) > most {
		t.Fatalf("%d bytes are packed into %d; want at most %d: %v", len(data), len(packed), most, data)
	}
	plain, used, err := unpacked(packed, len(data))
	if !bytes.Equal(plain, data) || used != len(packed) || err != api.OK {
		t.Fatalf("%v is packed as %v, which is %v, of %d bytes, error %d", data, packed, plain, used, err)
	}
	plain, used, err = Decode(packed, len(data))
	if !bytes.Equal(plain, data) || used != len(packed) || err != api.OK {
		t.Fatalf("Decode(%v, %d) = %v, %d, %d; want %v", packed, len(data), plain, used, err, data)
	}
}

// eachString goes through all strings of letters, up to a length.
func eachString(letters []byte, most int, visit func([]byte)) {
	var grow func([]byte)
	grow = func(s []byte) {
		visit(s)
		if len(s) == most {
			return
		}
		for _, c := range letters {
			grow(append(slices.Clone(s), c))
		}
	}
	grow(nil)
}

// P4.1: the chapter's examples, and others worked out by hand.
func TestDecodeOfKnownPieces(t *testing.T) {
	for _, c := range []struct {
		packed []byte
		n      int
		plain  []byte
		used   int
	}{
		{[]byte{254, 7}, 3, []byte{7, 7, 7}, 2},
		{[]byte{2, 7, 8, 9}, 3, []byte{7, 8, 9}, 4},
		{nil, 0, nil, 0},
		{[]byte{}, 0, nil, 0},
		{[]byte{0, 128}, 1, []byte{128}, 2},
		{[]byte{255, 128}, 2, []byte{128, 128}, 2},
		{[]byte{129, 5}, 128, bytes.Repeat([]byte{5}, 128), 2},
		{append([]byte{127}, different(128)...), 128, different(128), 129},
		{[]byte{128, 128, 0, 9, 128}, 1, []byte{9}, 4},
		{[]byte{0, 9, 128, 128, 255, 4}, 3, []byte{9, 4, 4}, 6},
		{[]byte{1, 129, 255, 0, 0}, 3, []byte{129, 255, 0}, 5},
	} {
		plain, used, err := Decode(c.packed, c.n)
		if !bytes.Equal(plain, c.plain) || used != c.used || err != api.OK {
			t.Errorf("Decode(%v, %d) = %v, %d, %d; want %v, %d", c.packed, c.n, plain, used, err, c.plain, c.used)
		}
	}
}

// P4.1: what lies behind the last byte asked for is neither taken nor looked at.
func TestDecodeStopsWhenThereIsEnough(t *testing.T) {
	for _, c := range []struct {
		packed  []byte
		n, used int
	}{
		{[]byte{128}, 0, 0},
		{[]byte{127}, 0, 0},
		{[]byte{254, 7}, 0, 0},
		{[]byte{254, 7, 128}, 3, 2},
		{[]byte{254, 7, 255}, 3, 2},
		{[]byte{254, 7, 5, 1}, 3, 2},
		{[]byte{254, 7, 129, 1}, 3, 2},
		{[]byte{128, 254, 7, 128, 128}, 3, 3},
	} {
		plain, used, err := Decode(c.packed, c.n)
		if len(plain) != c.n || used != c.used || err != api.OK {
			t.Errorf("Decode(%v, %d) = %v, %d, %d; want %d bytes taken", c.packed, c.n, plain, used, err, c.used)
		}
	}
}

// P4.1: the errors, and which one comes first: a piece that isn't whole is cut
// even if it would be too long, and a piece that is too long is found ahead of
// a later one that is cut. Beside an error there are no bytes and no count.
func TestDecodeErrors(t *testing.T) {
	for _, c := range []struct {
		packed []byte
		n      int
		want   api.Errno
	}{
		{nil, -1, api.ErrArg},
		{[]byte{254, 7}, -1, api.ErrArg},
		{[]byte{254}, math.MinInt, api.ErrArg},
		{nil, 1, api.ErrCut},
		{nil, math.MaxInt, api.ErrCut},
		{[]byte{128}, 1, api.ErrCut},
		{[]byte{128, 128, 128}, 1, api.ErrCut},
		{[]byte{0}, 1, api.ErrCut},
		{[]byte{127}, 1, api.ErrCut},
		{[]byte{129}, 1, api.ErrCut},
		{[]byte{255}, 1, api.ErrCut},
		{[]byte{2, 7, 8}, 3, api.ErrCut},
		{[]byte{2, 7, 8}, 2, api.ErrCut},
		{[]byte{2, 7, 8}, 1, api.ErrCut},
		{[]byte{254, 7}, 4, api.ErrCut},
		{[]byte{254, 7}, math.MaxInt, api.ErrCut},
		{[]byte{254, 7, 128}, 4, api.ErrCut},
		{[]byte{254, 7, 255}, 4, api.ErrCut},
		{[]byte{254, 7}, 2, api.ErrLong},
		{[]byte{254, 7}, 1, api.ErrLong},
		{[]byte{2, 7, 8, 9}, 2, api.ErrLong},
		{[]byte{129, 7}, 127, api.ErrLong},
		{append([]byte{127}, different(128)...), 127, api.ErrLong},
		{append([]byte{127}, different(127)...), 127, api.ErrCut},
		{[]byte{254, 7, 255}, 2, api.ErrLong},
		{[]byte{254, 7, 255, 1, 3}, 4, api.ErrLong},
		{[]byte{254, 7, 255, 1, 3}, 6, api.ErrCut},
	} {
		plain, used, err := Decode(c.packed, c.n)
		if len(plain) != 0 || used != 0 || err != c.want {
			t.Errorf("Decode(%v, %d) = %v, %d, %d; want error %d", c.packed, c.n, plain, used, err, c.want)
		}
	}
}

// P4.1: every first byte, with as many bytes behind it as it needs, one fewer
// and one more, and around the number of bytes that it produces.
func TestDecodeOfEveryFirstByte(t *testing.T) {
	for first := range 256 {
		for behind := range 131 {
			packed := append([]byte{byte(first)}, different(behind)...)
			for _, n := range []int{0, 1, behind - 1, behind, behind + 1, 256 - first, 257 - first, 258 - first, 128} {
				checkDecode(t, packed, n)
			}
		}
	}
}

// P4.1: all short strings of the bytes at which pieces differ.
func TestDecodeOfEveryShortString(t *testing.T) {
	eachString([]byte{0, 1, 2, 127, 128, 129, 254, 255}, 5, func(packed []byte) {
		for n := -1; n <= 8; n++ {
			checkDecode(t, packed, n)
		}
		for n := 126; n <= 134; n++ {
			checkDecode(t, packed, n)
		}
	})
}

// P4.1
func TestDecodeOfMixedBytes(t *testing.T) {
	for seed := range uint32(300) {
		packed := mixed(600, seed, 256)
		for _, n := range []int{1, 500, 1000, 5000, 20000, 40000, math.MaxInt} {
			checkDecode(t, packed, n)
		}
		for n := range 400 {
			checkDecode(t, packed, n)
		}
	}
}

// P4.1: a great many pieces.
func TestDecodeOfAMillionBytes(t *testing.T) {
	packed := bytes.Repeat([]byte{129, 7, 128, 0, 9}, 10000)
	want := bytes.Repeat(append(bytes.Repeat([]byte{7}, 128), 9), 10000)
	plain, used, err := Decode(packed, len(want))
	if !bytes.Equal(plain, want) || used != len(packed) || err != api.OK {
		t.Errorf("%d bytes, of %d, error %d", len(plain), used, err)
	}
	if _, _, err = Decode(packed, len(want)+1); err != api.ErrCut {
		t.Errorf("error %d; want %d", err, api.ErrCut)
	}
	if _, _, err = Decode(packed, len(want)-2); err != api.ErrLong {
		t.Errorf("error %d; want %d", err, api.ErrLong)
	}
}

// P4.2: one byte more for each 128 bytes and for the remainder is the bound
// for bytes without any repetition, and nothing is added to no bytes.
func TestEncodeOfDifferentBytes(t *testing.T) {
	for _, c := range []struct{ n, most int }{
		{0, 0}, {1, 2}, {2, 3}, {127, 128}, {128, 129}, {129, 131}, {130, 132}, {255, 257}, {256, 258}, {257, 260}, {384, 387}, {385, 389}, {65536, 66048},
	} {
		if got := len(Encode(different(c.n))); got > c.most {
			t.Errorf("%d bytes are packed into %d; want at most %d", c.n, got, c.most)
		}
	}
	for n := range 1000 {
		checkEncode(t, different(n))
	}
}

// P4.2: equal bytes are repeated, so that long runs become short.
func TestEncodeOfEqualBytes(t *testing.T) {
	for n := range 1000 {
		for _, c := range []byte{0, 7, 127, 128, 129, 255} {
			data := bytes.Repeat([]byte{c}, n)
			checkEncode(t, data)
			if got, want := len(Encode(data)), (n+127)/128*2; got > want {
				t.Errorf("%d equal bytes are packed into %d; want at most %d", n, got, want)
			}
		}
	}
}

// P4.2, P4.3
func TestEncodeOfEveryShortString(t *testing.T) {
	visit := func(data []byte) { checkEncode(t, data) }
	eachString([]byte{0, 128}, 13, visit)
	eachString([]byte{1, 128, 255}, 8, visit)
	eachString([]byte{0, 127, 128, 129, 255}, 5, visit)
}

// P4.2, P4.3: runs of every short length, and of the lengths of full pieces,
// behind and ahead of literal bytes that nearly or just fill pieces.
func TestEncodeOfRunsAmongDifferentBytes(t *testing.T) {
	lengths := []int{1, 2, 3, 4, 5, 125, 126, 127, 128, 129, 130, 131, 254, 255, 256, 257, 258, 259, 384}
	around := []int{0, 1, 2, 3, 124, 125, 126, 127, 128, 129, 130, 131, 255, 256, 257}
	for _, ahead := range around {
		for _, n := range lengths {
			for _, behind := range around {
				checkEncode(t, slices.Concat(different(ahead), bytes.Repeat([]byte{200}, n), different(behind)))
			}
		}
	}
}

// P4.2: short runs over and over, with literal bytes between them: what one
// would lose by each of them adds up.
func TestEncodeOfRunsOverAndOver(t *testing.T) {
	for run := 1; run <= 6; run++ {
		for between := range 135 {
			data := bytes.Repeat(append(different(between), bytes.Repeat([]byte{200}, run)...), 40)
			checkEncode(t, data)
			checkEncode(t, data[:len(data)-1])
			checkEncode(t, data[1:])
		}
	}
}

// P4.2, P4.3
func TestEncodeOfMixedBytes(t *testing.T) {
	for seed := range uint32(400) {
		for _, letters := range []int{2, 3, 4, 16, 256} {
			checkEncode(t, mixed(int(seed)*3, seed, letters))
		}
	}
	for _, letters := range []int{1, 2, 3, 256} {
		checkEncode(t, mixed(1<<20, 5, letters))
	}
}

// P4.2: all of the packed bytes are needed.
func TestDecodeOfPackedBytesThatAreCut(t *testing.T) {
	for _, letters := range []int{1, 2, 3, 256} {
		data := mixed(400, 17, letters)
		packed := Encode(data)
		for n := range packed {
			if plain, used, err := Decode(packed[:n], len(data)); len(plain) != 0 || used != 0 || err != api.ErrCut {
				t.Fatalf("%d of %d packed bytes: %v, %d, %d; want error %d", n, len(packed), plain, used, err, api.ErrCut)
			}
		}
		behind := append(slices.Clone(packed), 254, 1)
		if plain, used, err := Decode(behind, len(data)); !bytes.Equal(plain, data) || used != len(packed) || err != api.OK {
			t.Errorf("with bytes behind: %v, %d, %d", plain, used, err)
		}
	}
}

// P2, with the rules that arguments are neither changed nor shared, and that
// elements beyond a slice's length aren't read.
func TestTheSameCallAnswersTheSame(t *testing.T) {
	full := slices.Concat(different(20), bytes.Repeat([]byte{9}, 30), different(20))
	kept := slices.Clone(full)
	data := full[:40]
	packed := Encode(data)
	for range 3 {
		if !bytes.Equal(Encode(data), packed) || !bytes.Equal(Encode(slices.Clone(data)), packed) {
			t.Error("another answer")
		}
		Encode([]byte("something else"))
		checkDecode(t, packed, len(data))
	}
	if !bytes.Equal(full, kept) {
		t.Error("the argument was changed")
	}
	clear(full[40:])
	if !bytes.Equal(Encode(data), packed) {
		t.Error("what lies beyond the length counts")
	}
	room := append(slices.Clone(packed), 1, 2, 3)
	checkDecode(t, room[:len(packed)-1], len(data))
	clear(full)
	if plain, _, _ := Decode(packed, len(data)); !bytes.Equal(plain, kept[:40]) {
		t.Error("the packed bytes are shared with the argument")
	}
}

// The rule that a result shares no memory with an argument or another result.
func TestDecodedBytesAreNotShared(t *testing.T) {
	packed := []byte{2, 7, 8, 9, 254, 4}
	kept := slices.Clone(packed)
	one, _, _ := Decode(packed, 6)
	other, _, _ := Decode(packed, 6)
	clear(one[:cap(one)])
	if !bytes.Equal(packed, kept) || !bytes.Equal(other, []byte{7, 8, 9, 4, 4, 4}) {
		t.Error(packed, other)
	}
}

// P1: whatever comes, the calls end, and they answer by the chapter's words.
func FuzzEveryCallEnds(f *testing.F) {
	f.Add([]byte{254, 7, 2, 7, 8, 9, 128}, 6)
	f.Add([]byte{129}, -1)
	f.Add([]byte("abcccccdd"), 100)
	f.Fuzz(func(t *testing.T, data []byte, n int) {
		kept := slices.Clone(data)
		checkEncode(t, data)
		checkDecode(t, data, n)
		checkDecode(t, data, n&0xfff)
		if !bytes.Equal(data, kept) {
			t.Error("an argument was changed")
		}
	})
}
