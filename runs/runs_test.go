package runs

import (
	"bytes"
	"math"
	"slices"
	"testing"

	"mezzotint/api"
)

// pixelsOf is the pixels of a row by the chapter's words, as numbers: 0 for
// white, 1 for black.
func pixelsOf(row []byte, width int) []int {
	values := []int{128, 64, 32, 16, 8, 4, 2, 1}
	pixels := make([]int, width)
	for x := range pixels {
		pixels[x] = int(row[x/8]) / values[x%8] % 2
	}
	return pixels
}

// rowOf is a row of pixels, with noughts behind the last one.
func rowOf(pixels []int) []byte {
	var row []byte
	for len(pixels)%8 != 0 {
		pixels = append(slices.Clone(pixels), 0)
	}
	for i := 0; i < len(pixels); i += 8 {
		c := 0
		for _, pixel := range pixels[i : i+8] {
			c = 2*c + pixel
		}
		row = append(row, byte(c))
	}
	return row
}

// changesOf is where pixels differ from the one before them.
func changesOf(pixels []int) []int {
	var changes []int
	for x, pixel := range append([]int{0}, pixels...)[:len(pixels)] {
		if pixels[x] != pixel {
			changes = append(changes, x)
		}
	}
	return changes
}

// lengthsOf counts the pixels of each run, a white one first.
func lengthsOf(pixels []int) []int {
	lengths := []int{0}
	colour := 0
	for _, pixel := range pixels {
		if pixel != colour {
			lengths = append(lengths, 0)
			colour = pixel
		}
		lengths[len(lengths)-1]++
	}
	return lengths
}

// valid is whether changes are so by the chapter's words.
func valid(changes []int, width int) bool {
	for i, x := range changes {
		if x < 0 || x >= width || i > 0 && x <= changes[i-1] {
			return false
		}
	}
	return true
}

// nextOf is what Next must answer: all elements that may be meant are
// collected, and the first one is taken.
func nextOf(changes []int, from int, toBlack bool, width int) (int, int) {
	withEnd := append(slices.Clone(changes), width)
	first := 1
	if toBlack {
		first = 0
	}
	var meant []int
	for i := first; i < len(changes); i += 2 {
		if changes[i] > from {
			meant = append(meant, i)
		}
	}
	if len(meant) == 0 {
		return width, width
	}
	return withEnd[meant[0]], withEnd[meant[0]+1]
}

// mixed is n bytes that follow no simple pattern, the same for the same seed.
func mixed(n int, seed uint32) []byte {
	data := make([]byte, n)
	for i := range data {
		seed = seed*1664525 + 1013904223
		data[i] = byte(seed >> 24)
	}
	return data
}

// mixedPixels is so many pixels, in runs of up to so many.
func mixedPixels(width, longest int, seed uint32) []int {
	pixels := make([]int, 0, width)
	colour := int(seed % 2)
	for i := 0; len(pixels) < width; i++ {
		seed = seed*1664525 + 1013904223
		for range min(width-len(pixels), 1+int(seed>>8)%longest) {
			pixels = append(pixels, colour)
		}
		colour = 1 - colour
	}
	return pixels
}

// checkRow holds Right, Of, Row and Lengths against the chapter's words for
// pixels, in a row with any bits behind them.
func checkRow(t *testing.T, pixels []int, behind ...byte) {
	t.Helper()
	width := len(pixels)
	row := rowOf(pixels)
	want := changesOf(pixels)
	full := slices.Concat(row, behind)
	if width%8 > 0 && len(behind) > 0 {
		full[width/8] |= behind[0] >> (width % 8)
	}
	changes, err := Of(full, width)
	if !slices.Equal(changes, want) || err != api.OK {
		t.Fatalf("Of(%v, %d) = %v, %d; want %v", full, width, changes, err, want)
	}
	if !Right(changes, width) {
		t.Fatalf("the changes %v of a row of width %d aren't right", changes, width)
	}
	if got, err := Row(changes, width); !bytes.Equal(got, row) || err != api.OK {
		t.Fatalf("Row(%v, %d) = %v, %d; want %v", changes, width, got, err, row)
	}
	lengths, err := Lengths(changes, width)
	if !slices.Equal(lengths, lengthsOf(pixels)) || err != api.OK {
		t.Fatalf("Lengths(%v, %d) = %v, %d; want %v", changes, width, lengths, err, lengthsOf(pixels))
	}
	checkSum(t, changes, lengths, width)
}

// checkSum asks whether the lengths of runs add up to the width, and whether
// there is one more than there are changes.
func checkSum(t *testing.T, changes, lengths []int, width int) {
	t.Helper()
	sum := 0
	for _, n := range lengths {
		sum += n
	}
	if sum != width || len(lengths) != len(changes)+1 {
		t.Fatalf("the lengths %v of the changes %v add up to %d; want %d", lengths, changes, sum, width)
	}
}

// checkRight holds Right against the chapter's words, and Row and Lengths
// against Right: they take what is right for a width that may be.
func checkRight(t *testing.T, changes []int, width int) {
	t.Helper()
	right := valid(changes, width)
	if got := Right(changes, width); got != right {
		t.Fatalf("Right(%v, %d) = %t", changes, width, got)
	}
	want := api.OK
	if !right || width < 0 || width > 32768 {
		want = api.ErrArg
	}
	row, err := Row(changes, width)
	lengths, lengthsErr := Lengths(changes, width)
	if err != want || lengthsErr != want {
		t.Fatalf("of %v, width %d: Row has error %d, Lengths %d; want %d", changes, width, err, lengthsErr, want)
	}
	if want != api.OK {
		if len(row) != 0 || len(lengths) != 0 {
			t.Fatalf("of %v, width %d: %v, %v beside an error", changes, width, row, lengths)
		}
		return
	}
	if back, err := Of(row, width); !slices.Equal(back, changes) || err != api.OK {
		t.Fatalf("of %v, width %d, comes %v, %d", changes, width, back, err)
	}
	checkSum(t, changes, lengths, width)
}

// checkNext holds Next against the chapter's words, for both colours.
func checkNext(t *testing.T, changes []int, from, width int) {
	t.Helper()
	for _, toBlack := range []bool{true, false} {
		a, b := Next(changes, from, toBlack, width)
		wantA, wantB := nextOf(changes, from, toBlack, width)
		if a != wantA || b != wantB {
			t.Fatalf("Next(%v, %d, %t, %d) = %d, %d; want %d, %d", changes, from, toBlack, width, a, b, wantA, wantB)
		}
	}
}

// checkToggle holds Toggle against the chapter's words; twice the same place
// leaves changes as they are, if that wasn't their last one twice.
func checkToggle(t *testing.T, changes []int, x int) {
	t.Helper()
	n := len(changes)
	var want []int
	if n > 0 && changes[n-1] == x {
		want = changes[:n-1]
	} else {
		want = append(slices.Clone(changes), x)
	}
	if got := Toggle(changes, x); !slices.Equal(got, want) {
		t.Fatalf("Toggle(%v, %d) = %v; want %v", changes, x, got, want)
	}
}

// eachList goes through all lists of numbers from a least to a greatest one, up to a length.
func eachList(least, greatest, most int, visit func([]int)) {
	var grow func([]int)
	grow = func(list []int) {
		visit(list)
		if len(list) == most {
			return
		}
		for x := least; x <= greatest; x++ {
			grow(append(slices.Clone(list), x))
		}
	}
	grow(nil)
}

// P12.1: the chapter's example, and others worked out by hand.
func TestKnownRows(t *testing.T) {
	for _, c := range []struct {
		row     []byte
		width   int
		changes []int
		lengths []int
		want    []byte
	}{
		{[]byte{0x31}, 8, []int{2, 4, 7}, []int{2, 2, 3, 1}, []byte{0x31}},
		{[]byte{0x31}, 7, []int{2, 4}, []int{2, 2, 3}, []byte{0x30}},
		{[]byte{0x31}, 3, []int{2}, []int{2, 1}, []byte{0x20}},
		{[]byte{0x31}, 2, nil, []int{2}, []byte{0}},
		{[]byte{0x31, 0xff}, 10, []int{2, 4, 7}, []int{2, 2, 3, 3}, []byte{0x31, 0xc0}},
		{[]byte{0x31, 0x7f}, 10, []int{2, 4, 7, 8, 9}, []int{2, 2, 3, 1, 1, 1}, []byte{0x31, 0x40}},
		{nil, 0, nil, []int{0}, nil},
		{[]byte{}, 0, nil, []int{0}, nil},
		{[]byte{0xff}, 0, nil, []int{0}, nil},
		{[]byte{0}, 1, nil, []int{1}, []byte{0}},
		{[]byte{0x7f}, 1, nil, []int{1}, []byte{0}},
		{[]byte{0x80}, 1, []int{0}, []int{0, 1}, []byte{0x80}},
		{[]byte{0xff}, 1, []int{0}, []int{0, 1}, []byte{0x80}},
		{[]byte{0xff}, 8, []int{0}, []int{0, 8}, []byte{0xff}},
		{[]byte{0x55}, 8, []int{1, 2, 3, 4, 5, 6, 7}, []int{1, 1, 1, 1, 1, 1, 1, 1}, []byte{0x55}},
		{[]byte{0xaa}, 8, []int{0, 1, 2, 3, 4, 5, 6, 7}, []int{0, 1, 1, 1, 1, 1, 1, 1, 1}, []byte{0xaa}},
		{[]byte{1, 0x80}, 9, []int{7}, []int{7, 2}, []byte{1, 0x80}},
		{[]byte{0xff, 0xff, 0xff}, 16, []int{0}, []int{0, 16}, []byte{0xff, 0xff}},
		{[]byte{0, 0, 0xff}, 16, nil, []int{16}, []byte{0, 0}},
	} {
		changes, err := Of(c.row, c.width)
		if !slices.Equal(changes, c.changes) || err != api.OK {
			t.Errorf("Of(%v, %d) = %v, %d; want %v", c.row, c.width, changes, err, c.changes)
		}
		if !Right(c.changes, c.width) {
			t.Errorf("%v aren't right for width %d", c.changes, c.width)
		}
		row, err := Row(c.changes, c.width)
		if !bytes.Equal(row, c.want) || err != api.OK {
			t.Errorf("Row(%v, %d) = %v, %d; want %v", c.changes, c.width, row, err, c.want)
		}
		lengths, err := Lengths(c.changes, c.width)
		if !slices.Equal(lengths, c.lengths) || err != api.OK {
			t.Errorf("Lengths(%v, %d) = %v, %d; want %v", c.changes, c.width, lengths, err, c.lengths)
		}
	}
}

// P12.1: the errors of Of: a width that may not be comes ahead of a row that is
// too short, even if there are fewer bits than it; beside an error there are no
// changes.
func TestOfErrors(t *testing.T) {
	long := bytes.Repeat([]byte{0xaa}, 5000)
	for _, c := range []struct {
		row   []byte
		width int
		want  api.Errno
	}{
		{nil, -1, api.ErrArg},
		{long, -1, api.ErrArg},
		{long, -8, api.ErrArg},
		{long, math.MinInt, api.ErrArg},
		{long, 32769, api.ErrArg},
		{long, math.MaxInt, api.ErrArg},
		{nil, 32769, api.ErrArg},
		{nil, math.MaxInt, api.ErrArg},
		{nil, 1, api.ErrCut},
		{[]byte{}, 8, api.ErrCut},
		{long[:1], 9, api.ErrCut},
		{long[:1], 16, api.ErrCut},
		{long[:1], 17, api.ErrCut},
		{long[:2], 17, api.ErrCut},
		{nil, 32768, api.ErrCut},
		{long[:4095], 32768, api.ErrCut},
		{long[:4095], 32761, api.ErrCut},
		{long[:4095], 32760, api.OK},
		{long[:4096], 32761, api.OK},
		{long[:4096], 32768, api.OK},
		{long, 32768, api.OK},
		{long[:1], 8, api.OK},
		{long[:1], 1, api.OK},
		{long[:2], 9, api.OK},
		{nil, 0, api.OK},
	} {
		changes, err := Of(c.row, c.width)
		if err != c.want || err != api.OK && len(changes) != 0 {
			t.Errorf("Of(%d bytes, %d) = %d changes, error %d; want %d", len(c.row), c.width, len(changes), err, c.want)
		}
		if err == api.OK && len(changes) != c.width {
			t.Errorf("Of(%d bytes, %d) = %d changes", len(c.row), c.width, len(changes))
		}
	}
}

// P12.1: Right asks for no more of a width than that all changes are below it;
// Row and Lengths ask for one that may be.
func TestRightOfKnownChanges(t *testing.T) {
	for _, c := range []struct {
		changes []int
		width   int
		want    bool
	}{
		{nil, 0, true},
		{nil, -1, true},
		{nil, math.MinInt, true},
		{nil, math.MaxInt, true},
		{[]int{0}, 1, true},
		{[]int{0}, 0, false},
		{[]int{0}, -1, false},
		{[]int{-1}, 1, false},
		{[]int{-1}, 0, false},
		{[]int{math.MinInt}, 1, false},
		{[]int{math.MinInt}, math.MinInt, false},
		{[]int{math.MaxInt}, math.MaxInt, false},
		{[]int{math.MaxInt - 1}, math.MaxInt, true},
		{[]int{0, math.MaxInt - 1}, math.MaxInt, true},
		{[]int{0, math.MaxInt}, math.MaxInt, false},
		{[]int{math.MaxInt, math.MinInt}, math.MaxInt, false},
		{[]int{2, 4, 7}, 8, true},
		{[]int{2, 4, 7}, 7, false},
		{[]int{2, 4, 8}, 8, false},
		{[]int{2, 2}, 8, false},
		{[]int{2, 1}, 8, false},
		{[]int{2, 7, 4}, 8, false},
		{[]int{2, 9, 4}, 8, false},
		{[]int{9, 2}, 8, false},
		{[]int{0, 1, 1}, 8, false},
		{[]int{32767}, 32768, true},
		{[]int{32768}, 32768, false},
		{[]int{32768}, 32769, true},
		{[]int{1 << 40}, 1<<40 + 1, true},
	} {
		if got := Right(c.changes, c.width); got != c.want {
			t.Errorf("Right(%v, %d) = %t", c.changes, c.width, got)
		}
		checkRight(t, c.changes, c.width)
	}
}

// P12.1: all short lists, right and wrong ones.
func TestRightOfEveryShortList(t *testing.T) {
	for width := -1; width <= 6; width++ {
		eachList(-1, 6, 4, func(changes []int) { checkRight(t, changes, width) })
	}
}

// P12.1: one wrong change at any place of many.
func TestRightOfOneWrongChange(t *testing.T) {
	changes, err := Of(mixed(40, 7), 320)
	if err != api.OK || len(changes) < 100 {
		t.Fatal(changes, err)
	}
	for i, x := range changes {
		for _, wrong := range []int{-1, 320, math.MinInt, math.MaxInt} {
			changes[i] = wrong
			checkRight(t, changes, 320)
		}
		if i > 0 {
			changes[i] = changes[i-1]
			checkRight(t, changes, 320)
			changes[i], changes[i-1] = changes[i-1], x
			checkRight(t, changes, 320)
			changes[i-1] = changes[i]
		}
		changes[i] = x
		checkRight(t, changes, 320)
	}
}

// P12.1, P12.3: every row of a few pixels, with noughts, ones and mixed bits behind it.
func TestEveryNarrowRow(t *testing.T) {
	for width := range 15 {
		for n := range 1 << width {
			pixels := make([]int, width)
			for x := range pixels {
				pixels[x] = n >> x & 1
			}
			checkRow(t, pixels)
			checkRow(t, pixels, 255)
			checkRow(t, pixels, 0x5a, 0, 0xa5)
		}
	}
}

// P12.1: the pixels of any two bytes, read the other way round too.
func TestOfEveryTwoBytes(t *testing.T) {
	for n := range 1 << 16 {
		row := []byte{byte(n >> 8), byte(n)}
		pixels := pixelsOf(row, 16)
		if changes, err := Of(row, 16); !slices.Equal(changes, changesOf(pixels)) || err != api.OK {
			t.Fatalf("Of(%v, 16) = %v, %d; want %v", row, changes, err, changesOf(pixels))
		}
	}
}

// P12.1, P12.3: every width up to some, in runs short and long.
func TestMixedRows(t *testing.T) {
	for width := range 300 {
		for _, longest := range []int{1, 2, 3, 9, 40, 300} {
			for seed := range uint32(6) {
				checkRow(t, mixedPixels(width, longest, seed), byte(seed*51), 255)
			}
		}
	}
}

// P12.1, P12.3: one run, from any pixel to any other one.
func TestEachSingleRun(t *testing.T) {
	const width = 41
	for from := range width + 1 {
		for to := from; to <= width; to++ {
			pixels := make([]int, width)
			for x := from; x < to; x++ {
				pixels[x] = 1
			}
			checkRow(t, pixels, 0xff)
		}
	}
}

// P12.1, P12.3: the widest rows there are.
func TestWidestRows(t *testing.T) {
	for _, width := range []int{32759, 32760, 32761, 32767, 32768} {
		for _, longest := range []int{1, 2, 1000, 40000} {
			for seed := range uint32(2) {
				checkRow(t, mixedPixels(width, longest, seed), 255)
			}
		}
	}
}

// P12.1: a width that may not be, with changes that are right for it or not.
func TestWidthsThatMayNotBe(t *testing.T) {
	for _, width := range []int{-1, -8, -32768, math.MinInt, 32769, 32776, 65536, math.MaxInt} {
		for _, changes := range [][]int{nil, {}, {0}, {2, 4, 7}, {-1}, {3, 2}, {math.MaxInt}} {
			checkRight(t, changes, width)
			if _, err := Row(changes, width); err != api.ErrArg {
				t.Errorf("Row(%v, %d): error %d", changes, width, err)
			}
			if _, err := Lengths(changes, width); err != api.ErrArg {
				t.Errorf("Lengths(%v, %d): error %d", changes, width, err)
			}
		}
	}
}

// P12.2: changes by hand.
func TestToggleOfKnownChanges(t *testing.T) {
	for _, c := range []struct {
		changes []int
		x       int
		want    []int
	}{
		{nil, 0, []int{0}},
		{[]int{}, -1, []int{-1}},
		{[]int{0}, 0, nil},
		{[]int{0}, 1, []int{0, 1}},
		{[]int{2, 4, 7}, 7, []int{2, 4}},
		{[]int{2, 4, 7}, 9, []int{2, 4, 7, 9}},
		{[]int{2, 4, 7}, 4, []int{2, 4, 7, 4}},
		{[]int{2, 4, 7}, 2, []int{2, 4, 7, 2}},
		{[]int{2, 4, 7}, 0, []int{2, 4, 7, 0}},
		{[]int{7, 7}, 7, []int{7}},
		{[]int{math.MinInt}, math.MaxInt, []int{math.MinInt, math.MaxInt}},
		{[]int{math.MinInt}, math.MinInt, nil},
	} {
		if got := Toggle(c.changes, c.x); !slices.Equal(got, c.want) {
			t.Errorf("Toggle(%v, %d) = %v; want %v", c.changes, c.x, got, c.want)
		}
	}
}

// P12.2
func TestToggleOfEveryShortList(t *testing.T) {
	eachList(-1, 4, 4, func(changes []int) {
		for x := -2; x <= 5; x++ {
			checkToggle(t, changes, x)
		}
	})
}

// P12.2: a row changed at one place after another has these changes, and one
// changed twice at a place has none there.
func TestToggleOverAndOver(t *testing.T) {
	var changes []int
	for x := range 500 {
		changes = Toggle(changes, x)
		if x%3 == 0 {
			changes = Toggle(changes, x)
		}
	}
	if len(changes) != 333 || changes[0] != 1 || changes[1] != 2 || changes[2] != 4 || !Right(changes, 500) {
		t.Error(changes)
	}
	for len(changes) > 0 {
		changes = Toggle(changes, changes[len(changes)-1])
	}
}

// P12.2: changes by hand.
func TestNextOfKnownChanges(t *testing.T) {
	for _, c := range []struct {
		changes []int
		from    int
		toBlack bool
		width   int
		a, b    int
	}{
		{[]int{2, 4, 7}, -1, true, 10, 2, 4},
		{[]int{2, 4, 7}, 1, true, 10, 2, 4},
		{[]int{2, 4, 7}, 2, true, 10, 7, 10},
		{[]int{2, 4, 7}, 6, true, 10, 7, 10},
		{[]int{2, 4, 7}, 7, true, 10, 10, 10},
		{[]int{2, 4, 7}, -1, false, 10, 4, 7},
		{[]int{2, 4, 7}, 3, false, 10, 4, 7},
		{[]int{2, 4, 7}, 4, false, 10, 10, 10},
		{[]int{2, 4, 7, 9}, 4, false, 10, 9, 10},
		{[]int{2, 4, 7, 9}, 9, false, 10, 10, 10},
		{nil, -1, true, 10, 10, 10},
		{nil, -1, false, 10, 10, 10},
		{nil, 100, false, 10, 10, 10},
		{nil, 0, true, 0, 0, 0},
		{nil, 0, true, -3, -3, -3},
		{[]int{0}, -1, true, 1, 0, 1},
		{[]int{0}, 0, true, 1, 1, 1},
		{[]int{0}, -1, false, 1, 1, 1},
		{[]int{0, 1}, -1, false, 2, 1, 2},
		{[]int{2, 4, 7}, math.MinInt, true, 10, 2, 4},
		{[]int{2, 4, 7}, math.MinInt, false, 10, 4, 7},
		{[]int{2, 4, 7}, math.MaxInt, true, 10, 10, 10},
		{[]int{2, 4, 7}, -1, true, 3, 2, 4},
		{[]int{2, 4, 7}, 4, true, 5, 7, 5},
		{[]int{9, 1, 5, 3}, 2, true, 10, 9, 1},
		{[]int{1, 9, 5, 3}, 2, true, 10, 5, 3},
		{[]int{9, 1, 5, 3}, 2, false, 10, 3, 10},
		{[]int{math.MinInt, math.MaxInt}, math.MinInt, true, 10, 10, 10},
		{[]int{math.MinInt, math.MaxInt}, math.MinInt, false, 10, math.MaxInt, 10},
	} {
		a, b := Next(c.changes, c.from, c.toBlack, c.width)
		if a != c.a || b != c.b {
			t.Errorf("Next(%v, %d, %t, %d) = %d, %d; want %d, %d", c.changes, c.from, c.toBlack, c.width, a, b, c.a, c.b)
		}
	}
}

// P12.2: all short lists, in any order.
func TestNextOfEveryShortList(t *testing.T) {
	eachList(-1, 4, 5, func(changes []int) {
		for from := -2; from <= 5; from++ {
			checkNext(t, changes, from, -1)
			checkNext(t, changes, from, 4)
			checkNext(t, changes, from, 9)
		}
	})
}

// P12.2: rows of runs short and long, from every pixel on.
func TestNextOfMixedRows(t *testing.T) {
	for _, longest := range []int{1, 2, 5, 30} {
		for seed := range uint32(10) {
			changes := changesOf(mixedPixels(200, longest, seed))
			for from := -2; from <= 201; from++ {
				checkNext(t, changes, from, 200)
			}
		}
	}
}

// P12.2: of a row, the first place behind another one is that of the next pixel
// of this colour whose neighbour before it has the other one.
func TestNextMeansPixels(t *testing.T) {
	for seed := range uint32(30) {
		pixels := mixedPixels(120, 4, seed)
		changes, _ := Of(rowOf(pixels), len(pixels))
		for from := -1; from < len(pixels); from++ {
			for colour := range 2 {
				want := from + 1
				for want < len(pixels) && !(pixels[want] == colour && (want == 0 && colour == 1 || want > 0 && pixels[want-1] != colour)) {
					want++
				}
				if a, _ := Next(changes, from, colour == 1, len(pixels)); a != want {
					t.Fatalf("of %v from %d, colour %d: %d; want %d", changes, from, colour, a, want)
				}
			}
		}
	}
}

// P2, with the rules that arguments are neither changed nor shared, and that
// elements beyond a slice's length are neither read nor written.
func TestTheSameCallAnswersTheSame(t *testing.T) {
	full := []int{2, 4, 7, 9, 3, 12}
	kept := slices.Clone(full)
	changes := full[:3]
	row := []byte{0x31, 0xff, 0xff}
	for range 3 {
		if got := Toggle(changes, 8); !slices.Equal(got, []int{2, 4, 7, 8}) {
			t.Error(got)
		}
		if got := Toggle(changes, 7); !slices.Equal(got, []int{2, 4}) {
			t.Error(got)
		}
		if a, b := Next(changes, 4, true, 10); a != 7 || b != 10 {
			t.Error(a, b)
		}
		if a, b := Next(changes, 7, false, 10); a != 10 || b != 10 {
			t.Error(a, b)
		}
		if got, _ := Lengths(changes, 10); !slices.Equal(got, []int{2, 2, 3, 3}) {
			t.Error(got)
		}
		if got, _ := Row(changes, 10); !bytes.Equal(got, []byte{0x31, 0xc0}) {
			t.Error(got)
		}
		if got, err := Of(row[:1], 8); !slices.Equal(got, []int{2, 4, 7}) || err != api.OK {
			t.Error(got, err)
		}
		if got, err := Of(row[:1], 9); len(got) != 0 || err != api.ErrCut {
			t.Error(got, err)
		}
		if !Right(changes, 8) || !slices.Equal(full, kept) || !bytes.Equal(row, []byte{0x31, 0xff, 0xff}) {
			t.Fatal(full, row)
		}
	}
}

// The rule that a result shares no memory with an argument or another result.
func TestAnswersAreNotShared(t *testing.T) {
	changes := make([]int, 3, 10)
	copy(changes, []int{2, 4, 7})
	for _, x := range []int{7, 9} {
		one, other := Toggle(changes, x), Toggle(changes, x)
		want := slices.Clone(other)
		fill(one)
		if !slices.Equal(other, want) || !slices.Equal(changes, []int{2, 4, 7}) || changes[:4][3] != 0 {
			t.Error(x, other, changes[:4])
		}
	}
	one, _ := Lengths(changes, 10)
	other, _ := Lengths(changes, 10)
	fill(one)
	if !slices.Equal(other, []int{2, 2, 3, 3}) || !slices.Equal(changes, []int{2, 4, 7}) {
		t.Error(other, changes)
	}
	row := []byte{0x31}
	one, _ = Of(row, 8)
	other, _ = Of(row, 8)
	fill(one)
	if !slices.Equal(other, changes) {
		t.Error(other)
	}
	first, _ := Row(changes, 8)
	second, _ := Row(changes, 8)
	first[0] = 0
	if !bytes.Equal(second, row) {
		t.Error(second)
	}
}

// fill overwrites a list, and the room behind it.
func fill(list []int) {
	room := list[:cap(list)]
	for i := range room {
		room[i] = -5
	}
}

// P1: whatever comes, the calls end, and they answer by the chapter's words.
func FuzzEveryCallEnds(f *testing.F) {
	f.Add([]byte{0x31, 0xff}, 10, 4)
	f.Add([]byte{}, -1, 0)
	f.Add([]byte{2, 4, 7, 9}, 32769, -1)
	f.Fuzz(func(t *testing.T, data []byte, width, from int) {
		kept := slices.Clone(data)
		changes, err := Of(data, width)
		switch {
		case width < 0 || width > 32768:
			if err != api.ErrArg {
				t.Fatal(width, err)
			}
		case 8*len(data) < width:
			if err != api.ErrCut {
				t.Fatal(len(data), width, err)
			}
		default:
			checkRow(t, pixelsOf(data, width), data...)
		}
		if err != api.OK && len(changes) != 0 {
			t.Fatal(changes, err)
		}
		var list []int
		for _, c := range data {
			list = append(list, int(int8(c)))
		}
		for _, changes := range [][]int{changes, list} {
			checkRight(t, changes, width)
			checkNext(t, changes, from, width)
			checkToggle(t, changes, from)
		}
		if !bytes.Equal(data, kept) {
			t.Error("an argument was changed")
		}
	})
}
