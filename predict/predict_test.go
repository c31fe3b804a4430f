package predict

import (
	"math"
	"math/big"
	"slices"
	"testing"

	"mezzotint/api"
)

// The tests' own model goes by integers without bounds.

var wides = []int{8, 16, 32}

// wrongWides are numbers of bits that no sample has here.
var wrongWides = []int{math.MinInt, math.MinInt + 8, math.MinInt32, -256, -64, -32, -16, -8, -1, 0, 1, 2, 4, 7, 9, 10, 12, 14, 15, 17, 18, 24, 30, 31, 33, 34, 40, 48, 63, 64, 65, 128, 256, 1 << 32, 1<<32 + 8, 1<<32 + 16, 1<<32 + 32, math.MaxInt - 7, math.MaxInt}

// wrongPers are numbers of samples that no pixel has.
var wrongPers = []int{math.MinInt, math.MinInt + 1, math.MinInt32, -(1 << 32), -256, -6, -3, -2, -1, 0}

// greatPers are numbers of samples that no pixel of a short row has, but for
// those of an empty one.
var greatPers = []int{100, 255, 256, 1 << 15, 1 << 31, 1 << 32, 1<<32 + 1, 1<<32 + 2, 1 << 62, 1<<62 + 1, math.MaxInt - 1, math.MaxInt}

type call struct {
	name string
	run  func([]uint32, int, int) ([]uint32, api.Errno)
	want func([]uint32, int, int) []uint32
}

var calls = []call{{"Diff", Diff, diffOf}, {"Undo", Undo, undoOf}}

// most is the greatest sample of so many bits.
func most(wide int) uint32 { return uint32(1<<wide - 1) }

// modulo is what is left of a number, from 0 on, by 2^wide.
func modulo(n *big.Int, wide int) uint32 {
	return uint32(n.Mod(n, new(big.Int).Lsh(big.NewInt(1), uint(wide))).Uint64())
}

// diffOf is a row as differences, by the chapter's words.
func diffOf(row []uint32, per, wide int) []uint32 {
	var l []uint32
	for i, v := range row {
		if i < per {
			l = append(l, v)
			continue
		}
		l = append(l, modulo(big.NewInt(int64(v)-int64(row[i-per])), wide))
	}
	return l
}

// undoOf is the row of differences, by the chapter's words.
func undoOf(row []uint32, per, wide int) []uint32 {
	var l []uint32
	for i, v := range row {
		if i < per {
			l = append(l, v)
			continue
		}
		l = append(l, modulo(big.NewInt(int64(v)+int64(l[i-per])), wide))
	}
	return l
}

// errorOf is the error of a row, by the chapter's words.
func errorOf(row []uint32, per, wide int) api.Errno {
	if !slices.Contains(wides, wide) || per < 1 || len(row)%per != 0 {
		return api.ErrArg
	}
	if slices.ContainsFunc(row, func(v uint32) bool { return uint64(v) >= uint64(1)<<wide }) {
		return api.ErrOver
	}
	return api.OK
}

// checkBoth holds both calls against the chapter's words, and each against the
// other one.
func checkBoth(t *testing.T, row []uint32, per, wide int) {
	t.Helper()
	wantErr := errorOf(row, per, wide)
	for i, c := range calls {
		var want []uint32
		if wantErr == api.OK {
			want = c.want(row, per, wide)
		}
		got, err := c.run(row, per, wide)
		if !slices.Equal(got, want) || err != wantErr {
			t.Fatalf("%s(%v, %d, %d): %v, error %d; want %v, error %d", c.name, row, per, wide, got, err, want, wantErr)
		}
		if wantErr != api.OK {
			continue
		}
		if back, err := calls[1-i].run(got, per, wide); !slices.Equal(back, row) || err != api.OK {
			t.Fatalf("%s(%v, %d, %d): %v, error %d; want %v", calls[1-i].name, got, per, wide, back, err, row)
		}
	}
}

// mixed is n samples of so many bits that follow no simple pattern, the same
// for the same seed.
func mixed(n, wide int, seed uint32) []uint32 {
	l := make([]uint32, n)
	for i := range l {
		seed = seed*1664525 + 1013904223
		l[i] = (seed>>16 | seed<<16) & most(wide)
	}
	return l
}

// edges are the samples of so many bits around powers of two.
func edges(wide int) []uint32 {
	var l []uint32
	for i := range wide {
		p := uint32(1) << i
		l = append(l, p-1, p, p+1)
	}
	l = append(l, most(wide)-2, most(wide)-1, most(wide))
	l = slices.DeleteFunc(l, func(v uint32) bool { return v > most(wide) })
	slices.Sort(l)
	return slices.Compact(l)
}

// eachRow goes through all rows of these samples, up to a length.
func eachRow(longest int, of []uint32, visit func([]uint32)) {
	var grow func([]uint32)
	grow = func(l []uint32) {
		visit(l)
		if len(l) == longest {
			return
		}
		for _, v := range of {
			grow(append(slices.Clip(l), v))
		}
	}
	grow(nil)
}

// P18.1, with rows and differences worked out by hand.
func TestRowsByHand(t *testing.T) {
	for _, c := range []struct {
		per, wide   int
		row, differ []uint32
	}{
		{1, 8, nil, nil},
		{3, 16, []uint32{}, []uint32{}},
		{1, 8, []uint32{10, 20, 15}, []uint32{10, 10, 251}},
		{1, 8, []uint32{255, 0, 255}, []uint32{255, 1, 255}},
		{1, 8, []uint32{0, 128, 0, 127, 255}, []uint32{0, 128, 128, 127, 128}},
		{1, 16, []uint32{10, 20, 15}, []uint32{10, 10, 65531}},
		{1, 16, []uint32{0, 65535, 0, 256}, []uint32{0, 65535, 1, 256}},
		{1, 32, []uint32{10, 20, 15}, []uint32{10, 10, 4294967291}},
		{1, 32, []uint32{4294967295, 0, 2147483648, 1}, []uint32{4294967295, 1, 2147483648, 2147483649}},
		{2, 8, []uint32{1, 200, 3, 100, 2, 250}, []uint32{1, 200, 2, 156, 255, 150}},
		{3, 8, []uint32{1, 2, 3, 5, 5, 5}, []uint32{1, 2, 3, 4, 3, 2}},
		{3, 8, []uint32{9, 8, 7}, []uint32{9, 8, 7}},
		{4, 16, []uint32{0, 1, 2, 3, 65535, 65535, 1, 1}, []uint32{0, 1, 2, 3, 65535, 65534, 65535, 65534}},
		{6, 32, []uint32{1, 2, 3, 4, 5, 6}, []uint32{1, 2, 3, 4, 5, 6}},
	} {
		if got, err := Diff(c.row, c.per, c.wide); !slices.Equal(got, c.differ) || err != api.OK {
			t.Errorf("Diff(%v, %d, %d): %v, error %d; want %v", c.row, c.per, c.wide, got, err, c.differ)
		}
		if got, err := Undo(c.differ, c.per, c.wide); !slices.Equal(got, c.row) || err != api.OK {
			t.Errorf("Undo(%v, %d, %d): %v, error %d; want %v", c.differ, c.per, c.wide, got, err, c.row)
		}
	}
}

// P18.1: sums go over the results ahead, not over the values.
func TestUndoAddsUpResults(t *testing.T) {
	for _, wide := range wides {
		ones := slices.Repeat([]uint32{1, most(wide)}, 300)
		got, err := Undo(ones, 2, wide)
		if err != api.OK {
			t.Fatal(err)
		}
		for i := range 300 {
			up, down := uint32(i+1)&most(wide), -uint32(i+1)&most(wide)
			if got[2*i] != up || got[2*i+1] != down {
				t.Errorf("%d bits, pixel %d: %v; want %d %d", wide, i, got[2*i:2*i+2], up, down)
			}
		}
	}
}

// P18.1, P18.2: all pairs of samples of 8 bits, and those at the edges of others.
func TestPairsOfSamples(t *testing.T) {
	for x := range uint32(256) {
		for y := range uint32(256) {
			checkBoth(t, []uint32{x, y}, 1, 8)
		}
	}
	for _, wide := range wides {
		for _, x := range edges(wide) {
			for _, y := range edges(wide) {
				checkBoth(t, []uint32{x, y}, 1, wide)
				checkBoth(t, []uint32{x, y}, 2, wide)
				checkBoth(t, []uint32{x, 0, y, most(wide)}, 2, wide)
			}
		}
	}
}

// P18.1, P18.2: each sample of 16 bits beside some.
func TestAllSamplesOf16Bits(t *testing.T) {
	for v := range uint32(1 << 16) {
		checkBoth(t, []uint32{v, 12345, v, v, 0, 65535, v}, 1, 16)
	}
}

// P18.1, P18.2: all short rows of a few samples, with pixels of each number.
func TestAllShortRows(t *testing.T) {
	for _, wide := range wides {
		few := []uint32{0, 1, most(wide)/2 + 1, most(wide)}
		eachRow(6, few, func(row []uint32) {
			for per := 1; per <= 7; per++ {
				checkBoth(t, row, per, wide)
			}
		})
	}
}

// P18.1, P18.2: a row must be whole pixels, however many samples these have.
func TestEachLengthOfEachPixel(t *testing.T) {
	for _, wide := range wides {
		for n := range 50 {
			for per := -3; per <= 60; per++ {
				for seed := range uint32(3) {
					checkBoth(t, mixed(n, wide, seed), per, wide)
				}
			}
		}
	}
}

// P18.1: the samples of one place go by those of that place alone.
func TestPlanesAreOnTheirOwn(t *testing.T) {
	for _, wide := range wides {
		for per := 1; per <= 9; per++ {
			row := mixed(per*20, wide, 7)
			for _, c := range calls {
				all, err := c.run(row, per, wide)
				if err != api.OK {
					t.Fatal(err)
				}
				for place := range per {
					var plane, want []uint32
					for i := place; i < len(row); i += per {
						plane, want = append(plane, row[i]), append(want, all[i])
					}
					if got, err := c.run(plane, 1, wide); !slices.Equal(got, want) || err != api.OK {
						t.Errorf("%s of plane %d of %d: %v, error %d; want %v", c.name, place, per, got, err, want)
					}
				}
			}
		}
	}
}

// wantError holds that both calls answer an error, and nothing beside it.
func wantError(t *testing.T, row []uint32, per, wide int, want api.Errno) {
	t.Helper()
	for _, c := range calls {
		if got, err := c.run(row, per, wide); len(got) != 0 || err != want {
			t.Errorf("%s(%v, %d, %d): %v, error %d; want error %d", c.name, row, per, wide, got, err, want)
		}
	}
}

// P18.1: a wrong number of bits, also with a sample that doesn't fit.
func TestWrongWides(t *testing.T) {
	for _, wide := range wrongWides {
		for _, row := range [][]uint32{nil, {}, {0}, {1, 0}, {255, 3, 7, 9}, {math.MaxUint32, 256}} {
			for _, per := range []int{-1, 0, 1, 2, 3} {
				wantError(t, row, per, wide, api.ErrArg)
			}
		}
	}
}

// P18.1: a wrong number of samples, also with a sample that doesn't fit.
func TestWrongPers(t *testing.T) {
	for _, wide := range wides {
		for _, per := range wrongPers {
			for _, row := range [][]uint32{nil, {}, {0}, {1, 0}, {1, 2, 3, 4, 5, 6}, {math.MaxUint32, math.MaxUint32}} {
				wantError(t, row, per, wide, api.ErrArg)
			}
		}
		for _, per := range greatPers {
			for _, row := range [][]uint32{{0}, {1, 0}, {1, 2, 3, 4, 5, 6}, {math.MaxUint32, math.MaxUint32}} {
				wantError(t, row, per, wide, api.ErrArg)
			}
			checkBoth(t, nil, per, wide)
			checkBoth(t, []uint32{}, per, wide)
		}
	}
}

// P18.1: a row that isn't whole pixels comes before a sample that doesn't fit.
func TestPixelsThatAreNotWhole(t *testing.T) {
	for _, wide := range wides {
		for per := 2; per < 10; per++ {
			for n := 1; n < 40; n++ {
				if n%per == 0 {
					continue
				}
				wantError(t, make([]uint32, n), per, wide, api.ErrArg)
				wantError(t, slices.Repeat([]uint32{math.MaxUint32}, n), per, wide, api.ErrArg)
			}
		}
	}
}

// P18.1: a sample that doesn't fit, at each place, and the greatest that does.
func TestASampleThatDoesNotFit(t *testing.T) {
	for _, wide := range []int{8, 16} {
		for _, over := range []uint32{most(wide) + 1, most(wide) + 2, 2 * (most(wide) + 1), 1 << 24, 1 << 31, 1<<31 + 1, math.MaxUint32 - 1, math.MaxUint32} {
			for _, per := range []int{1, 2, 3, 4, 12} {
				for i := range 12 {
					for _, row := range [][]uint32{make([]uint32, 12), slices.Repeat([]uint32{most(wide)}, 12), mixed(12, wide, 5)} {
						row[i] = over
						wantError(t, row, per, wide, api.ErrOver)
						row[i] = most(wide)
						checkBoth(t, row, per, wide)
					}
				}
			}
		}
	}
}

// P18.1: a sample that does not fit into so many bits may fit into more.
func TestWhatFitsIntoMoreBits(t *testing.T) {
	checkBoth(t, []uint32{255, 256, 0}, 1, 16)
	checkBoth(t, []uint32{65535, 65536, 0}, 1, 32)
	checkBoth(t, []uint32{math.MaxUint32, 0, math.MaxUint32, 1}, 1, 32)
	wantError(t, []uint32{255, 256, 0}, 1, 8, api.ErrOver)
	wantError(t, []uint32{65535, 65536, 0}, 1, 16, api.ErrOver)
	wantError(t, []uint32{65535, 65536, 0}, 1, 8, api.ErrOver)
}

// P18.1, P18.2: rows as wide as a page may be, and as many samples as it may have.
func TestLongRows(t *testing.T) {
	for _, wide := range wides {
		for _, per := range []int{1, 3, 4, 7} {
			checkBoth(t, mixed(per*api.MaxWidth, wide, 11), per, wide)
		}
		for _, per := range []int{1, 128, api.MaxCells} {
			row := mixed(api.MaxCells, wide, 12)
			differ, err := Diff(row, per, wide)
			if len(differ) != len(row) || err != api.OK {
				t.Fatalf("%d bits: %d samples, error %d", wide, len(differ), err)
			}
			if back, err := Undo(differ, per, wide); !slices.Equal(back, row) || err != api.OK {
				t.Errorf("%d bits: %d samples, error %d", wide, len(back), err)
			}
		}
	}
}

// P2, with the rules that arguments aren't changed and that results share nothing.
func TestTheSameCallAnswersTheSame(t *testing.T) {
	for _, wide := range wides {
		for _, per := range []int{1, 2, 4, 12} {
			row := mixed(12, wide, 3)
			kept := slices.Clone(row)
			for _, c := range calls {
				for range 3 {
					got, err := c.run(row, per, wide)
					if !slices.Equal(got, c.want(kept, per, wide)) || err != api.OK {
						t.Fatal(c.name, got, err)
					}
					clear(got[:cap(got)])
				}
			}
			if !slices.Equal(row, kept) {
				t.Errorf("the row was changed: %v; was %v", row, kept)
			}
		}
	}
}

// The rule that elements beyond a slice's length are neither read nor written.
func TestCapacityDoesNotCount(t *testing.T) {
	for _, wide := range wides {
		row := []uint32{1, 2, 3, 4, math.MaxUint32, math.MaxUint32}
		kept := slices.Clone(row)
		for n := range 5 {
			for per := 1; per < 6; per++ {
				checkBoth(t, row[:n], per, wide)
			}
		}
		for _, c := range calls {
			got, _ := c.run(row[:2], 1, wide)
			_ = append(got, 7, 7)
		}
		if !slices.Equal(row, kept) {
			t.Errorf("the row was changed: %v; was %v", row, kept)
		}
	}
}

// P1: whatever comes, the calls end, and what they answer is as the chapter says.
func FuzzEveryCallEnds(f *testing.F) {
	f.Add([]byte{10, 0, 0, 0, 20, 0, 0, 0, 15, 0, 0, 0}, 1, 8)
	f.Add([]byte{255, 255, 255, 255, 0, 1, 0, 0}, 2, 32)
	f.Add([]byte{0, 1, 0, 0}, 1, 8)
	f.Add([]byte{}, math.MinInt, 16)
	f.Add([]byte{}, math.MaxInt, 16)
	f.Fuzz(func(t *testing.T, b []byte, per, wide int) {
		var row []uint32
		for ; len(b) >= 4; b = b[4:] {
			row = append(row, uint32(b[0])|uint32(b[1])<<8|uint32(b[2])<<16|uint32(b[3])<<24)
		}
		kept := slices.Clone(row)
		checkBoth(t, row, per, wide)
		fits := wides[uint(wide)%3]
		for i := range row {
			row[i] &= most(fits)
		}
		masked := slices.Clone(row)
		for _, p := range []int{per, 1, 2, 3, len(row)} {
			checkBoth(t, row, p, fits)
			checkBoth(t, kept, p, fits)
		}
		if !slices.Equal(row, masked) {
			t.Error("the argument was changed")
		}
	})
}
