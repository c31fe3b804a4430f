package lz

import (
	"bytes"
	"math"
	"slices"
	"testing"

	"mezzotint/api"
)

// expanded is what Expand must answer, by the chapter's words.
func expanded(l []api.Token, most int) ([]byte, api.Errno) {
	var plain []byte
	for _, t := range l {
		ahead := len(plain)
		switch {
		case t.Len != 0 && (t.Len < 3 || t.Len > 258):
			return nil, api.ErrArg
		case t.Len != 0 && (t.Dist < 1 || t.Dist > 32768):
			return nil, api.ErrArg
		case t.Len != 0 && t.Dist > ahead:
			return nil, api.ErrForm
		case t.Len == 0:
			plain = append(plain, t.Lit)
		}
		for i := range t.Len {
			plain = append(plain, plain[ahead+i-t.Dist])
		}
		if len(plain) > most {
			return nil, api.ErrLimit
		}
	}
	return plain, api.OK
}

// letter is the token of a byte.
func letter(c byte) api.Token { return api.Token{Lit: c} }

// letters is the tokens of bytes, each on its own.
func letters(b []byte) []api.Token {
	l := make([]api.Token, len(b))
	for i, c := range b {
		l[i] = letter(c)
	}
	return l
}

// back is a copy.
func back(length, dist int) api.Token { return api.Token{Len: length, Dist: dist} }

// dice throws numbers that follow no simple pattern, the same for the same seed.
type dice struct{ seed uint32 }

func (d *dice) below(n int) int {
	d.seed = d.seed*1664525 + 1013904223
	return int(uint64(d.seed) * uint64(n) >> 32)
}

// mixed is n bytes that follow no simple pattern. Few letters make many copies.
func mixed(n int, seed uint32, count int) []byte {
	d := dice{seed}
	data := make([]byte, n)
	for i := range data {
		data[i] = byte(d.below(count))
	}
	return data
}

// patchwork is n bytes or a few more, many of which are pieces of those ahead of them.
func patchwork(n int, seed uint32, count int) []byte {
	d := dice{seed}
	var data []byte
	for len(data) < n {
		data = append(data, mixed(d.below(20), seed+uint32(len(data)), count)...)
		if len(data) == 0 {
			continue
		}
		dist, length := 1+d.below(len(data)), d.below(400)
		for range length {
			data = append(data, data[len(data)-dist])
		}
	}
	return data
}

// different is n bytes, from a first one on, no two neighbours of which are equal.
func different(n int, first byte) []byte {
	data := make([]byte, n)
	for i := range data {
		data[i] = first + byte(i)
	}
	return data
}

// eachString goes through all strings of letters, up to a length.
func eachString(letters []byte, most int, visit func([]byte)) {
	var grow func([]byte)
	grow = func(s []byte) {
		visit(s)
		if len(s) == most {
			return
		}
		for _, c := range letters {
			grow(append(slices.Clone(s), c))
		}
	}
	grow(nil)
}

// checkExpand holds Expand against the chapter's words.
func checkExpand(t *testing.T, l []api.Token, most int) api.Errno {
	t.Helper()
	plain, err := Expand(l, most)
	want, wantErr := expanded(l, most)
	if !bytes.Equal(plain, want) || err != wantErr {
		t.Fatalf("Expand of %d tokens, the last ones %v, %d bytes at most: %d bytes, error %d; want %d bytes, error %d",
			len(l), l[max(0, len(l)-4):], most, len(plain), err, len(want), wantErr)
	}
	return wantErr
}

// checkTokens holds what Tokens answers against the chapter's words, and
// returns how many tokens there are.
func checkTokens(t *testing.T, data []byte) int {
	t.Helper()
	l := Tokens(data)
	if len(l) > len(data) {
		t.Fatalf("%d tokens for %d bytes", len(l), len(data))
	}
	for i, x := range l {
		if x.Len == 0 && x.Dist != 0 || x.Len != 0 && x.Lit != 0 {
			t.Fatalf("token %d of %d is %v", i, len(l), x)
		}
	}
	if plain, err := expanded(l, len(data)); !bytes.Equal(plain, data) || err != api.OK {
		t.Fatalf("the %d tokens for %d bytes stand for %d bytes, error %d", len(l), len(data), len(plain), err)
	}
	if plain, err := Expand(l, len(data)); !bytes.Equal(plain, data) || err != api.OK {
		t.Fatalf("the %d tokens for %d bytes are expanded to %d bytes, error %d", len(l), len(data), len(plain), err)
	}
	return len(l)
}

// P9.1: the document's examples, and others worked out by hand.
func TestExpandOfKnownTokens(t *testing.T) {
	for _, c := range []struct {
		l    []api.Token
		want string
	}{
		{nil, ""},
		{[]api.Token{}, ""},
		{letters([]byte("abc")), "abc"},
		{[]api.Token{letter('a'), letter('b'), letter('c'), back(6, 3)}, "abcabcabc"},
		{[]api.Token{letter('a'), back(5, 1)}, "aaaaaa"},
		{[]api.Token{letter('a'), letter('b'), back(3, 2)}, "ababa"},
		{[]api.Token{letter('a'), letter('b'), letter('c'), letter('d'), back(3, 4)}, "abcdabc"},
		{[]api.Token{letter('a'), letter('b'), letter('c'), letter('d'), back(3, 3), letter('e'), back(4, 5)}, "abcdbcdedbcd"},
		{[]api.Token{letter(0), back(3, 1), letter(255)}, "\x00\x00\x00\x00\xff"},
	} {
		for _, most := range []int{len(c.want), len(c.want) + 1, math.MaxInt} {
			if plain, err := Expand(c.l, most); string(plain) != c.want || err != api.OK {
				t.Errorf("Expand(%v, %d) = %q, %d; want %q", c.l, most, plain, err, c.want)
			}
		}
	}
}

// P9.1: every byte stands for itself.
func TestExpandOfEveryByte(t *testing.T) {
	want := different(256, 0)
	if plain, err := Expand(letters(want), 256); !bytes.Equal(plain, want) || err != api.OK {
		t.Errorf("%v, error %d", plain, err)
	}
}

// P9.1: each error alone, and beside it there are no bytes, although tokens
// ahead of it stand for some.
func TestExpandErrors(t *testing.T) {
	for _, c := range []struct {
		bad  api.Token
		most int
		want api.Errno
	}{
		{back(-1, 1), 300, api.ErrArg},
		{back(1, 1), 300, api.ErrArg},
		{back(2, 1), 300, api.ErrArg},
		{back(259, 1), 300, api.ErrArg},
		{back(math.MinInt, 1), 300, api.ErrArg},
		{back(math.MaxInt, 1), 300, api.ErrArg},
		{back(3, 0), 300, api.ErrArg},
		{back(3, -1), 300, api.ErrArg},
		{back(3, 32769), 300, api.ErrArg},
		{back(3, math.MinInt), 300, api.ErrArg},
		{back(3, math.MaxInt), 300, api.ErrArg},
		{back(3, 3), 300, api.ErrForm},
		{back(258, 3), 300, api.ErrForm},
		{back(3, 32768), 300, api.ErrForm},
		{back(3, 2), 4, api.ErrLimit},
		{back(258, 1), 259, api.ErrLimit},
		{letter('c'), 2, api.ErrLimit},
	} {
		l := []api.Token{letter('a'), letter('b'), c.bad}
		for _, more := range [][]api.Token{nil, {letter('c')}, {back(0, 9)}, {back(1, 1)}, {back(3, 32768)}} {
			if plain, err := Expand(append(l, more...), c.most); len(plain) != 0 || err != c.want {
				t.Errorf("Expand(%v, %d) = %q, %d; want error %d", append(l, more...), c.most, plain, err, c.want)
			}
		}
	}
}

// P9.1: within a token ErrArg comes ahead of ErrForm, and that ahead of ErrLimit.
func TestExpandErrorsOfOneToken(t *testing.T) {
	for _, c := range []struct {
		bad  api.Token
		want api.Errno
	}{
		{back(2, 5), api.ErrArg},
		{back(259, 5), api.ErrArg},
		{back(3, 32769), api.ErrArg},
		{back(3, 0), api.ErrArg},
		{back(-3, -3), api.ErrArg},
		{back(3, 5), api.ErrForm},
		{back(258, 32768), api.ErrForm},
		{back(3, 4), api.ErrLimit},
		{letter('c'), api.ErrLimit},
	} {
		l := append(letters([]byte("abcd")), c.bad)
		if plain, err := Expand(l, 4); len(plain) != 0 || err != c.want {
			t.Errorf("Expand(%v, 4) = %q, %d; want error %d", l, plain, err, c.want)
		}
	}
}

// P9.1: the first token that has an error decides, whichever errors follow.
func TestExpandErrorsOfSeveralTokens(t *testing.T) {
	bad := []struct {
		token api.Token
		want  api.Errno
	}{
		{back(2, 1), api.ErrArg}, {back(3, 0), api.ErrArg}, {back(3, 20), api.ErrForm}, {back(9, 1), api.ErrLimit},
	}
	for _, first := range bad {
		for _, second := range bad {
			l := []api.Token{letter('a'), first.token, second.token}
			if plain, err := Expand(l, 9); len(plain) != 0 || err != first.want {
				t.Errorf("Expand(%v, 9) = %q, %d; want error %d", l, plain, err, first.want)
			}
			l = []api.Token{letter('a'), back(8, 1), first.token, second.token}
			if plain, err := Expand(l, 9); len(plain) != 0 || err != first.want {
				t.Errorf("Expand(%v, 9) = %q, %d; want error %d", l, plain, err, first.want)
			}
		}
	}
}

// P9.1: no tokens don't stand for more than fewer than no bytes: an error needs
// a token that has it.
func TestExpandOfNegativeMost(t *testing.T) {
	for _, most := range []int{-1, -258, math.MinInt} {
		if plain, err := Expand(nil, most); len(plain) != 0 || err != api.OK {
			t.Errorf("no tokens, %d bytes at most: %v, error %d", most, plain, err)
		}
		for _, c := range []struct {
			token api.Token
			want  api.Errno
		}{
			{letter('a'), api.ErrLimit}, {back(0, -1), api.ErrLimit}, {back(3, 1), api.ErrForm}, {back(2, 1), api.ErrArg},
		} {
			if plain, err := Expand([]api.Token{c.token}, most); len(plain) != 0 || err != c.want {
				t.Errorf("%v, %d bytes at most: %v, error %d; want error %d", c.token, most, plain, err, c.want)
			}
		}
	}
}

// P9.1: the distance of a byte, and the byte of a copy.
func TestExpandOfWhatDoesNotMatter(t *testing.T) {
	for _, dist := range []int{math.MinInt, -1, 0, 1, 2, 32768, 32769, math.MaxInt} {
		for _, c := range []byte{0, 1, 'z', 255} {
			l := []api.Token{{Lit: 'a', Dist: dist}, {Lit: 'b', Dist: dist}, {Lit: c, Len: 3, Dist: 2}, {Lit: c, Dist: dist}}
			if plain, err := Expand(l, 6); string(plain) != "ababa"+string([]byte{c}) || err != api.OK {
				t.Errorf("Expand(%v, 6) = %q, %d", l, plain, err)
			}
		}
	}
}

// P9.1: lengths and distances at the ends of their ranges, behind as many bytes
// as a distance has, one fewer and one more, and with as many bytes allowed as
// there are, one fewer and one more.
func TestExpandAtEveryEdge(t *testing.T) {
	lengths := []int{math.MinInt, -258, -3, -1, 0, 1, 2, 3, 4, 257, 258, 259, 260, math.MaxInt}
	dists := []int{math.MinInt, -32768, -1, 0, 1, 2, 3, 257, 258, 259, 32767, 32768, 32769, 65536, math.MaxInt}
	data := mixed(32770, 3, 256)
	for _, ahead := range []int{0, 1, 2, 3, 4, 257, 258, 259, 32766, 32767, 32768, 32769, 32770} {
		l := letters(data[:ahead])
		for _, n := range lengths {
			for _, dist := range dists {
				with := append(l[:ahead:ahead], back(n, dist))
				for _, most := range []int{ahead - 1, ahead, ahead + 1, ahead + n - 1, ahead + n, ahead + n + 1, math.MaxInt} {
					checkExpand(t, with, most)
				}
			}
		}
	}
}

// P9.1: every length, at all short distances, those of copies that take bytes
// of their own among them.
func TestExpandOfEveryLength(t *testing.T) {
	data := mixed(300, 5, 256)
	l := letters(data)
	for n := 3; n <= 258; n++ {
		for dist := 1; dist <= 300; dist++ {
			with := append(l[:300:300], back(n, dist))
			if err := checkExpand(t, with, 300+n); err != api.OK {
				t.Fatalf("length %d, distance %d: error %d", n, dist, err)
			}
			if err := checkExpand(t, with, 299+n); err != api.ErrLimit {
				t.Fatalf("length %d, distance %d: error %d; want %d", n, dist, err, api.ErrLimit)
			}
		}
	}
}

// P9.1: distances of all sizes, each as great as may be, and too great by one.
func TestExpandOfEveryDistance(t *testing.T) {
	data := mixed(32768, 7, 256)
	l := letters(data)
	for dist := 1; dist <= 32768; dist += 1 + dist/40 {
		if err := checkExpand(t, append(l[:dist:dist], back(10, dist)), dist+10); err != api.OK {
			t.Fatalf("distance %d: error %d", dist, err)
		}
		if err := checkExpand(t, append(l[:dist-1:dist-1], back(10, dist)), dist+9); err != api.ErrForm {
			t.Fatalf("distance %d behind %d bytes: error %d; want %d", dist, dist-1, err, api.ErrForm)
		}
	}
}

// P9.1: tokens that follow no pattern, right ones, and with a wrong one among them.
func TestExpandOfMixedTokens(t *testing.T) {
	d := dice{11}
	seen := map[api.Errno]int{}
	for range 3000 {
		var l []api.Token
		for produced := 0; len(l) < 60; {
			x := letter(byte(d.below(256)))
			if produced > 0 && d.below(2) == 0 {
				x = back(3+d.below(256), 1+d.below(produced))
			}
			produced += max(x.Len, 1)
			l = append(l, x)
		}
		checkExpand(t, l, math.MaxInt)
		l[d.below(len(l))] = back(d.below(300)-20, d.below(200)-20)
		seen[checkExpand(t, l, d.below(9000))]++
	}
	for _, err := range []api.Errno{api.OK, api.ErrArg, api.ErrForm, api.ErrLimit} {
		if seen[err] == 0 {
			t.Errorf("no answer has error %d", err)
		}
	}
}

// P9.1: far more bytes than a copy can reach back.
func TestExpandOfManyTokens(t *testing.T) {
	l := letters(mixed(32768, 13, 256))
	for range 5000 {
		l = append(l, back(258, 32768), back(100, 20000))
	}
	most := 32768 + 5000*358
	if err := checkExpand(t, l, most); err != api.OK {
		t.Errorf("error %d", err)
	}
	if err := checkExpand(t, l, most-1); err != api.ErrLimit {
		t.Errorf("error %d; want %d", err, api.ErrLimit)
	}
}

// P9.2: the document's example, and others of which the choice made here is as plain.
func TestTokensOfKnownBytes(t *testing.T) {
	for _, c := range []struct {
		s    string
		want []api.Token
	}{
		{"", nil},
		{"a", letters([]byte("a"))},
		{"aa", letters([]byte("aa"))},
		{"aaa", letters([]byte("aaa"))},
		{"aaaa", []api.Token{letter('a'), back(3, 1)}},
		{"abab", letters([]byte("abab"))},
		{"ababa", []api.Token{letter('a'), letter('b'), back(3, 2)}},
		{"abcabcabc", []api.Token{letter('a'), letter('b'), letter('c'), back(6, 3)}},
		{"abcdabcd", []api.Token{letter('a'), letter('b'), letter('c'), letter('d'), back(4, 4)}},
		{"abcdxabcyabcd", []api.Token{letter('a'), letter('b'), letter('c'), letter('d'), letter('x'), back(3, 5), letter('y'), back(4, 9)}},
		{"\x00\x00\x00\x00\xff", []api.Token{letter(0), back(3, 1), letter(255)}},
	} {
		if l := Tokens([]byte(c.s)); !slices.Equal(l, c.want) {
			t.Errorf("%q: %v; want %v", c.s, l, c.want)
		}
		checkTokens(t, []byte(c.s))
	}
}

// P9.2: n / 258 tokens, rounded up, and three more.
func TestTokensOfEqualBytes(t *testing.T) {
	check := func(n int, c byte) {
		if got, most := checkTokens(t, bytes.Repeat([]byte{c}, n)), (n+257)/258+3; got > most {
			t.Fatalf("%d tokens for %d bytes %d; want at most %d", got, n, c, most)
		}
	}
	for n := range 1600 {
		check(n, 0)
		check(n, 255)
	}
	for c := range 256 {
		check(c+517, byte(c))
	}
	for _, times := range []int{20, 126, 127, 128, 254, 255, 256, 387, 4096} {
		for n := times*258 - 4; n <= times*258+4; n++ {
			check(n, 'x')
		}
	}
	for _, n := range []int{32767, 32768, 32769, 65535, 65536, 65537, 100000, 1 << 22} {
		check(n, 7)
	}
}

// P9.2, P9.3
func TestTokensOfEveryShortString(t *testing.T) {
	visit := func(data []byte) { checkTokens(t, data) }
	eachString([]byte{0, 1}, 12, visit)
	eachString([]byte{0, 128, 255}, 7, visit)
	eachString([]byte("abcde"), 5, visit)
}

// P9.2, P9.3: the same bytes over and over, each period, cut anywhere.
func TestTokensOfPeriods(t *testing.T) {
	for period := 1; period <= 600; period++ {
		data := bytes.Repeat(mixed(period, uint32(period), 256), 4)
		checkTokens(t, data)
		checkTokens(t, data[period/2:])
		checkTokens(t, data[:len(data)-1-period/3])
	}
}

// P9.2: bytes come again around the greatest distance. Up to it a copy is
// found, as no others come in between that are like them; beyond it there
// may be none.
func TestTokensAtTheGreatestDistance(t *testing.T) {
	piece := different(40, 200)
	for dist := 32760; dist <= 32776; dist++ {
		for _, ahead := range []int{0, 1, 32767, 32768, 40000} {
			data := slices.Concat(mixed(ahead, 17, 200), piece, mixed(dist-40, 19, 200), piece)
			checkTokens(t, data)
			same := func(x api.Token) bool { return x.Len >= 40 && x.Dist == dist }
			if got, want := slices.ContainsFunc(Tokens(data), same), dist <= 32768; got != want {
				t.Fatalf("distance %d behind %d bytes: found is %t", dist, ahead, got)
			}
		}
	}
}

// P9.2: bytes come again in every length, up to one that needs several copies.
func TestTokensOfEveryLength(t *testing.T) {
	for n := range 800 {
		piece := mixed(n, 23, 256)
		for _, between := range []int{0, 1, 300} {
			data := slices.Concat(piece, mixed(between, 29, 256), piece)
			checkTokens(t, data)
			checkTokens(t, append(data, 'x'))
		}
	}
}

// P9.2: bytes that differ have the same mark, so there are many places at which
// they seem to come.
func TestTokensOfTheSameMark(t *testing.T) {
	var data []byte
	f := newFinder(make([]byte, 1<<16))
	copy(f.b, "abc")
	want := f.mark(0)
	for three := range 1 << 24 {
		f.b[0], f.b[1], f.b[2] = byte(three), byte(three>>8), byte(three>>16)
		if f.mark(0) == want {
			data = append(data, f.b[:3]...)
		}
	}
	if len(data) < 3*tries {
		t.Fatalf("only %d bytes have the mark", len(data))
	}
	for _, times := range []int{1, 2, 60, 100} {
		checkTokens(t, bytes.Repeat(data, times))
		checkTokens(t, slices.Concat(bytes.Repeat(data, times), data[:len(data)/2], data))
	}
}

// P9.2, P9.3
func TestTokensOfMixedBytes(t *testing.T) {
	for seed := range uint32(300) {
		for _, count := range []int{1, 2, 3, 16, 256} {
			checkTokens(t, mixed(int(seed)*5, seed, count))
			checkTokens(t, patchwork(int(seed)*5, seed, count))
		}
	}
	for _, count := range []int{2, 4, 32, 256} {
		checkTokens(t, patchwork(300000, 31, count))
	}
}

// P1: millions of bytes, those for which there is the most to look at among
// them. Were all of them compared with all the others, it wouldn't end in time.
func TestTokensOfMillionsOfBytes(t *testing.T) {
	for _, count := range []int{2, 3, 256} {
		checkTokens(t, mixed(1<<21, 37, count))
	}
	d := dice{41}
	var nearly []byte
	for len(nearly) < 1<<21 {
		nearly = append(nearly, make([]byte, 150+d.below(100))...)
		nearly = append(nearly, byte(1+d.below(255)))
	}
	checkTokens(t, nearly)
}

// P2, with the rules that arguments are neither changed nor shared, and that
// elements beyond a slice's length aren't read.
func TestTheSameCallAnswersTheSame(t *testing.T) {
	full := patchwork(3000, 43, 5)
	kept := slices.Clone(full)
	data := full[:2000]
	l := Tokens(data)
	for range 3 {
		if !slices.Equal(Tokens(data), l) || !slices.Equal(Tokens(slices.Clone(data)), l) {
			t.Error("another answer")
		}
		Tokens([]byte("something else"))
	}
	for n := range 40 {
		repeated := []byte("abcdabcdabcdabcdabcdabcdabcdabcdabcdabcd")
		if !slices.Equal(Tokens(repeated[:n]), Tokens(slices.Clone(repeated[:n]))) {
			t.Errorf("what lies beyond %d bytes counts", n)
		}
	}
	more := append(slices.Clone(l), back(1, 1), letter('a'))
	moreKept := slices.Clone(more)
	for range 3 {
		if plain, err := Expand(more[:len(l)], 2000); !bytes.Equal(plain, data) || err != api.OK {
			t.Errorf("%d bytes, error %d", len(plain), err)
		}
	}
	if !bytes.Equal(full, kept) || !slices.Equal(more, moreKept) {
		t.Error("an argument was changed")
	}
}

// The rule that a result shares no memory with an argument or another result.
func TestResultsAreNotShared(t *testing.T) {
	data := []byte("abcabcabcxabcabc")
	one, other := Tokens(data), Tokens(data)
	kept := slices.Clone(other)
	clear(one[:cap(one)])
	if !slices.Equal(other, kept) || string(data) != "abcabcabcxabcabc" {
		t.Error(other, string(data))
	}
	first, _ := Expand(other, 100)
	second, _ := Expand(other, 100)
	clear(first[:cap(first)])
	if !slices.Equal(other, kept) || !bytes.Equal(second, data) {
		t.Error(other, string(second))
	}
}

// P1: whatever comes, the calls end, and they answer by the chapter's words.
func FuzzEveryCallEnds(f *testing.F) {
	f.Add([]byte("abcabcabc"), 9)
	f.Add([]byte{1, 7, 0, 0, 3, 3, 0, 1, 2, 255, 128, 0}, 100)
	f.Add([]byte{3, 255, 255, 255}, -1)
	f.Fuzz(func(t *testing.T, data []byte, most int) {
		kept := slices.Clone(data)
		checkTokens(t, data)
		checkTokens(t, append(bytes.Repeat(data, 3), data[len(data)/2:]...))
		var l []api.Token
		for at := 0; at+4 <= len(data); at += 4 {
			l = append(l, api.Token{Lit: data[at], Len: int(data[at+1]) * int(data[at]&3), Dist: int(data[at+2]) + int(int8(data[at+3]))<<8})
		}
		checkExpand(t, l, most)
		checkExpand(t, l, most&0xffff)
		if !bytes.Equal(data, kept) {
			t.Error("an argument was changed")
		}
	})
}
