package limit

import (
	"cmp"
	"math"
	"math/big"
	"slices"
	"testing"

	"mezzotint/api"
)

// eachList goes through all lists of some elements, up to a length.
func eachList[E any](elements []E, most int, visit func([]E)) {
	var grow func([]E)
	grow = func(list []E) {
		visit(list)
		if len(list) == most {
			return
		}
		for _, e := range elements {
			grow(append(slices.Clone(list), e))
		}
	}
	grow(nil)
}

// mixed is n numbers below a bound that follow no simple pattern, the same for
// the same seed.
func mixed(n int, seed uint32, bound int) []int {
	numbers := make([]int, n)
	for i := range numbers {
		seed = seed*1664525 + 1013904223
		numbers[i] = int(seed>>8) % bound
	}
	return numbers
}

// doubling is n frequencies, each twice the one ahead of it, as far as that may be.
func doubling(n int) []int {
	often := make([]int, n)
	for i := range often {
		often[i] = 1 << min(i, 30)
	}
	return often
}

// fibonacci is n frequencies, each the sum of the two ahead of it, as far as that may be.
func fibonacci(n int) []int {
	often := make([]int, n)
	for i := range often {
		often[i] = 1
		if i > 1 {
			often[i] = min(often[i-1]+often[i-2], 1<<30)
		}
	}
	return often
}

// coming is how many symbols have a frequency above 0.
func coming(often []int) int {
	n := 0
	for _, f := range often {
		if f > 0 {
			n++
		}
	}
	return n
}

// errorOf is the error that Lengths must answer, by the chapter's words.
func errorOf(often []int, most int) api.Errno {
	if most < 1 || most > 30 || len(often) > 300 {
		return api.ErrArg
	}
	for _, f := range often {
		if f < 0 || f > 1073741824 {
			return api.ErrArg
		}
	}
	if big.NewInt(int64(coming(often))).Cmp(new(big.Int).Lsh(big.NewInt(1), uint(most))) > 0 {
		return api.ErrLong
	}
	return api.OK
}

// share is the sum of 1 / 2^length over the symbols with a frequency above 0.
func share(often, lens []int) *big.Rat {
	sum := new(big.Rat)
	for i, f := range often {
		if f > 0 {
			sum.Add(sum, big.NewRat(1, 1<<lens[i]))
		}
	}
	return sum
}

// costOf is the cost, by the chapter's words, without wrapping around.
func costOf(often, lens []int) *big.Int {
	cost := new(big.Int)
	for i, f := range often {
		cost.Add(cost, new(big.Int).Mul(big.NewInt(int64(f)), big.NewInt(int64(lens[i]))))
	}
	return cost
}

// leastByTrying is the minimum cost, of all valid lengths tried.
func leastByTrying(often []int, most int) int {
	least := math.MaxInt
	var try func(i, left, cost int)
	try = func(i, left, cost int) {
		if i == len(often) {
			least = min(least, cost)
			return
		}
		if often[i] == 0 {
			try(i+1, left, cost)
			return
		}
		for n := 1; n <= most; n++ {
			if left >= 1<<(most-n) {
				try(i+1, left-1<<(most-n), cost+often[i]*n)
			}
		}
	}
	try(0, 1<<most, 0)
	return least
}

// least is the minimum cost of a code, from the top of its tree to the bottom:
// at each depth the nodes that are left end a word, those of the most frequent
// symbols first, or go on with two nodes each.
func least(often []int, most int) int {
	var order []int
	for _, f := range often {
		if f > 0 {
			order = append(order, f)
		}
	}
	slices.SortFunc(order, func(a, b int) int { return cmp.Compare(b, a) })
	n := len(order)
	const never = math.MaxInt / 2
	below := make([][]int, n+1) // of the depth below, by how many symbols have words, and how many nodes are left
	for done := range below {
		below[done] = make([]int, n+1)
		for left := range below[done] {
			if done < n {
				below[done][left] = never
			}
		}
	}
	for depth := most; depth >= 0; depth-- {
		here := make([][]int, n+1)
		for done := n; done >= 0; done-- {
			here[done] = make([]int, n+1)
			for left := range here[done] {
				if done == n {
					continue
				}
				here[done][left] = below[done][min(2*left, n)]
				if left > 0 && depth > 0 {
					here[done][left] = min(here[done][left], order[done]*depth+here[done+1][left-1])
				}
			}
		}
		below = here
	}
	if n == 0 {
		return 0
	}
	return below[0][1]
}

// huffman is the minimum cost of a code whose words may be as long as they will:
// the sum of the weights of its inner nodes.
func huffman(often []int) int {
	list := slices.DeleteFunc(slices.Clone(often), func(f int) bool { return f == 0 })
	if len(list) == 1 {
		return list[0]
	}
	cost := 0
	for len(list) > 1 {
		slices.Sort(list)
		cost += list[0] + list[1]
		list = append(list[2:], list[0]+list[1])
	}
	return cost
}

// checkValid holds what Lengths answers against the chapter's words, but for
// the cost, which it returns.
func checkValid(t *testing.T, often []int, most int) int {
	t.Helper()
	lens, err := Lengths(often, most)
	if err != api.OK || len(lens) != len(often) {
		t.Fatalf("%v, most %d: %v, error %d", often, most, lens, err)
	}
	for i, f := range often {
		if f == 0 && lens[i] != 0 || f > 0 && (lens[i] < 1 || lens[i] > most) {
			t.Fatalf("%v, most %d: %v: length %d at %d", often, most, lens, lens[i], i)
		}
	}
	want := big.NewRat(1, 1)
	if n := coming(often); n < 2 {
		want = big.NewRat(int64(n), 2)
	}
	if got := share(often, lens); got.Cmp(want) != 0 {
		t.Fatalf("%v, most %d: %v: the sum is %v", often, most, lens, got)
	}
	cost := Cost(often, lens)
	if want := costOf(often, lens); want.Cmp(big.NewInt(int64(cost))) != 0 {
		t.Fatalf("Cost(%v, %v) = %d, want %d", often, lens, cost, want)
	}
	checkAnew(t, often, lens)
	return cost
}

// checkAnew assigns lengths anew, the shortest ones to the most frequent
// symbols, which must not change the cost.
func checkAnew(t *testing.T, often, lens []int) {
	t.Helper()
	var order, sorted []int
	for i, f := range often {
		if f > 0 {
			order = append(order, i)
			sorted = append(sorted, lens[i])
		}
	}
	slices.SortFunc(order, func(a, b int) int { return cmp.Compare(often[b], often[a]) })
	slices.Sort(sorted)
	anew := make([]int, len(often))
	for k, i := range order {
		anew[i] = sorted[k]
	}
	if Cost(often, anew) != Cost(often, lens) {
		t.Fatalf("%v: %v costs %d, anew %v %d", often, lens, Cost(often, lens), anew, Cost(often, anew))
	}
}

// checkError holds the error of Lengths against the chapter's words; true if there is none.
func checkError(t *testing.T, often []int, most int) bool {
	t.Helper()
	lens, err := Lengths(often, most)
	if want := errorOf(often, most); err != want || err != api.OK && len(lens) != 0 {
		t.Fatalf("%v, most %d: %v, error %d; want %d", often, most, lens, err, want)
	}
	return err == api.OK
}

// The number that the chapter gives a name.
func TestConstant(t *testing.T) {
	if MaxSymbols != 300 {
		t.Error(MaxSymbols)
	}
}

// P7.1: the chapter's examples.
func TestTheDocumentsExamples(t *testing.T) {
	for _, c := range []struct {
		most int
		want []int
	}{{4, []int{1, 2, 3, 3}}, {2, []int{2, 2, 2, 2}}} {
		if lens, err := Lengths([]int{8, 4, 2, 1}, c.most); !slices.Equal(lens, c.want) || err != api.OK {
			t.Errorf("most %d: %v, error %d", c.most, lens, err)
		}
	}
}

// P7.1: all lists of a few small frequencies, against all valid lengths.
func TestAllFewFrequencies(t *testing.T) {
	eachList([]int{0, 1, 2, 5}, 5, func(often []int) {
		for most := 1; most <= 6; most++ {
			if !checkError(t, often, most) {
				continue
			}
			if got, want := checkValid(t, often, most), leastByTrying(often, most); got != want {
				t.Fatalf("%v, most %d: cost %d, want %d", often, most, got, want)
			}
			if want := least(often, most); leastByTrying(often, most) != want {
				t.Fatalf("%v, most %d: the test's own costs differ: %d", often, most, want)
			}
		}
	})
}

// P7.1: lists of several kinds and lengths, with each maximum.
func TestTheCostIsTheMinimum(t *testing.T) {
	var lists [][]int
	for _, n := range []int{1, 2, 3, 4, 7, 8, 9, 16, 17, 30, 31, 32, 33, 40} {
		even := slices.Repeat([]int{3}, n)
		lists = append(lists, doubling(n), fibonacci(n), even, mixed(n, uint32(n), 5), mixed(n, uint32(n), 1000), mixed(n, uint32(n), 1<<30))
		backward := slices.Clone(fibonacci(n))
		slices.Reverse(backward)
		lists = append(lists, backward)
	}
	for _, often := range lists {
		last := math.MaxInt
		for most := 1; most <= 30; most++ {
			if !checkError(t, often, most) {
				continue
			}
			cost := checkValid(t, often, most)
			if want := least(often, most); cost != want {
				t.Fatalf("%v, most %d: cost %d, want %d", often, most, cost, want)
			}
			if cost > last { // P7.3
				t.Fatalf("%v, most %d: cost %d, and %d with a smaller maximum", often, most, cost, last)
			}
			last = cost
		}
	}
}

// P7.1: as many symbols as may be, with the maxima that are too small, just great enough, and ordinary.
func TestManySymbols(t *testing.T) {
	for _, often := range [][]int{
		mixed(300, 1, 7),
		mixed(300, 2, 1<<30),
		doubling(300),
		fibonacci(300),
		slices.Repeat([]int{1 << 30}, 300),
		slices.Repeat([]int{1}, 256),
		slices.Concat(make([]int, 44), mixed(256, 3, 100)),
	} {
		for _, most := range []int{1, 7, 8, 9, 10, 15, 29, 30} {
			if !checkError(t, often, most) {
				continue
			}
			if got, want := checkValid(t, often, most), least(often, most); got != want {
				t.Errorf("%v, most %d: cost %d, want %d", often, most, got, want)
			}
		}
	}
}

// P7.1: a maximum that is beyond every length of a Huffman code changes nothing.
func TestAsShortAsHuffman(t *testing.T) {
	for n := range 29 {
		for _, often := range [][]int{doubling(n), fibonacci(n), mixed(n, 9, 50)} {
			if got, want := checkValid(t, often, 30), huffman(often); got != want {
				t.Errorf("%v: cost %d, want %d", often, got, want)
			}
		}
	}
}

// P7.1: frequencies of 2^n symbols with the maximum n leave one choice.
func TestAllWordsOfOneLength(t *testing.T) {
	for most := 1; most <= 8; most++ {
		often := mixed(1<<most, uint32(most), 1<<20)
		for i := range often {
			often[i]++
		}
		if lens, err := Lengths(often, most); err != api.OK || !slices.Equal(lens, slices.Repeat([]int{most}, 1<<most)) {
			t.Errorf("most %d: %v, error %d", most, lens, err)
		}
		if most < 8 {
			checkError(t, append(often, 1), most)
			checkError(t, append(often, 0), most)
		}
	}
}

// P7.1: no symbol, or one alone.
func TestFewSymbols(t *testing.T) {
	for most := 1; most <= 30; most++ {
		for _, n := range []int{0, 1, 2, 299, 300} {
			often := make([]int, n)
			if lens, err := Lengths(often, most); err != api.OK || !slices.Equal(lens, often) {
				t.Errorf("%d noughts, most %d: %v, error %d", n, most, lens, err)
			}
			for _, at := range []int{0, n / 2, n - 1} {
				if n == 0 {
					continue
				}
				want := make([]int, n)
				want[at] = 1
				for _, f := range []int{1, 2, 1 << 30} {
					often := make([]int, n)
					often[at] = f
					if lens, err := Lengths(often, most); err != api.OK || !slices.Equal(lens, want) {
						t.Errorf("%d symbols, %d at %d, most %d: %v, error %d", n, f, at, most, lens, err)
					}
				}
			}
		}
		if lens, err := Lengths(nil, most); err != api.OK || len(lens) != 0 {
			t.Errorf("nil, most %d: %v, error %d", most, lens, err)
		}
	}
}

// P7.1: wrong arguments, and which error comes first.
func TestErrors(t *testing.T) {
	many := slices.Repeat([]int{1}, 301)
	for i, c := range []struct {
		often []int
		most  int
		want  api.Errno
	}{
		{[]int{1, 1}, 0, api.ErrArg},
		{[]int{1, 1}, -1, api.ErrArg},
		{[]int{1, 1}, 31, api.ErrArg},
		{[]int{1, 1}, 64, api.ErrArg},
		{[]int{1, 1}, math.MinInt, api.ErrArg},
		{[]int{1, 1}, math.MaxInt, api.ErrArg},
		{nil, 0, api.ErrArg},
		{nil, 31, api.ErrArg},
		{nil, 1, api.OK},
		{nil, 30, api.OK},
		{many, 30, api.ErrArg},
		{many, 1, api.ErrArg},
		{make([]int, 301), 30, api.ErrArg},
		{many[:300], 30, api.OK},
		{many[:300], 9, api.OK},
		{many[:300], 8, api.ErrLong},
		{[]int{1, -1}, 3, api.ErrArg},
		{[]int{-1}, 3, api.ErrArg},
		{[]int{math.MinInt}, 3, api.ErrArg},
		{[]int{1<<30 + 1}, 3, api.ErrArg},
		{[]int{math.MaxInt}, 3, api.ErrArg},
		{[]int{1 << 30, 1 << 30}, 1, api.OK},
		{[]int{1, 1, 1}, 1, api.ErrLong},
		{[]int{1, 1, 1, 0}, 1, api.ErrLong},
		{[]int{1, 1, 0}, 1, api.OK},
		{[]int{1, 1, 1, -1}, 1, api.ErrArg},
		{[]int{1, 1, 1, 1<<30 + 1}, 1, api.ErrArg},
		{[]int{1, 1, 1}, 0, api.ErrArg},
	} {
		if want := errorOf(c.often, c.most); want != c.want {
			t.Errorf("row %d: the test's own error is %d", i, want)
		}
		checkError(t, c.often, c.most)
	}
}

// P7.2
func TestCost(t *testing.T) {
	for i, c := range []struct {
		often, lens []int
		want        int
	}{
		{nil, nil, 0},
		{nil, []int{1}, 0},
		{[]int{1}, nil, 0},
		{[]int{8, 4, 2, 1}, []int{1, 2, 3, 3}, 25},
		{[]int{8, 4, 2, 1}, []int{2, 2, 2, 2}, 30},
		{[]int{8, 4, 2, 1}, []int{1, 2}, 16},
		{[]int{8, 4}, []int{1, 2, 3, 3}, 16},
		{[]int{-3, 5}, []int{7, -2}, -31},
		{[]int{math.MaxInt64, 1}, []int{1, 1}, math.MinInt64},
		{[]int{math.MaxInt64}, []int{2}, -2},
		{[]int{math.MinInt64}, []int{-1}, math.MinInt64},
		{[]int{math.MinInt64, -1}, []int{1, 1}, math.MaxInt64},
		{[]int{1 << 32}, []int{1 << 32}, 0},
		{[]int{1<<32 + 1}, []int{1<<32 + 1}, 1<<33 + 1},
		{slices.Repeat([]int{1 << 30}, 300), slices.Repeat([]int{30}, 300), 300 * 30 << 30},
		{slices.Repeat([]int{1}, 1000), slices.Repeat([]int{2}, 999), 1998},
	} {
		if got := Cost(c.often, c.lens); got != c.want {
			t.Errorf("row %d: %d, want %d", i, got, c.want)
		}
	}
}

// P7.2: against sums that don't wrap around, of which the last 64 bits are taken.
func TestCostWrapsAround(t *testing.T) {
	edges := []int{math.MinInt64, math.MinInt64 + 1, -1 << 32, -2, -1, 0, 1, 3, 1 << 31, 1 << 62, math.MaxInt64}
	eachList(edges, 3, func(often []int) {
		for _, n := range edges {
			lens := []int{n, 3, -n}[:len(often)]
			whole := new(big.Int).Add(costOf(often, lens), new(big.Int).Lsh(big.NewInt(1), 130))
			want := int(new(big.Int).And(whole, new(big.Int).SetUint64(math.MaxUint64)).Uint64())
			if got := Cost(often, lens); got != want {
				t.Fatalf("Cost(%v, %v) = %d, want %d", often, lens, got, want)
			}
		}
	})
}

// Rule 3: arguments are neither changed nor kept, and elements beyond a length aren't read.
func TestArgumentsAreLeft(t *testing.T) {
	whole := []int{9, 4, 0, 2, 1, -1, -1}
	often := whole[:5]
	lens, err := Lengths(often, 3)
	if err != api.OK || !slices.Equal(whole, []int{9, 4, 0, 2, 1, -1, -1}) {
		t.Error(lens, err, whole)
	}
	was := slices.Clone(lens)
	often[0] = 100
	if !slices.Equal(lens, was) {
		t.Error("a result hangs on an argument")
	}
	if Cost(often, was); !slices.Equal(lens, was) || often[0] != 100 {
		t.Error("Cost changes an argument")
	}
	zeros := make([]int, 3)
	none, _ := Lengths(zeros, 3)
	none[0] = 5
	if zeros[0] != 0 {
		t.Error("a result shares an argument's memory")
	}
}

// P2
func TestTheSameCallAnswersTheSame(t *testing.T) {
	often := mixed(200, 5, 4)
	first, _ := Lengths(often, 12)
	was := slices.Clone(first)
	first[0] = 77
	for range 5 {
		if again, err := Lengths(often, 12); err != api.OK || !slices.Equal(again, was) {
			t.Fatal(again, err)
		}
	}
}

// P1, P7.1
func FuzzEveryCallEnds(f *testing.F) {
	f.Add([]byte{8, 4, 2, 1}, 4, byte(0))
	f.Add([]byte{255, 0, 1, 1, 3}, 2, byte(22))
	f.Add([]byte{1, 1, 1}, 1, byte(30))
	f.Fuzz(func(t *testing.T, bytes []byte, most int, shift byte) {
		often := make([]int, len(bytes))
		for i, b := range bytes {
			often[i] = int(b) << (shift % 25 * (b & 1))
		}
		if len(often) > 320 || !checkError(t, often, most) {
			return
		}
		if got, want := checkValid(t, often, most), least(often, most); got != want {
			t.Errorf("%v, most %d: cost %d, want %d", often, most, got, want)
		}
	})
}
