package token

import (
	"math"
	"math/big"
	"slices"
	"strings"
	"testing"

	"tidewater/api"
)

const (
	greatest = math.MaxUint64
	alphabet = "0123456789abcdefghijklmnopqrstuv"
)

// written are numbers next to which the chapter's answers change, and some between them, with their tokens.
var written = []struct {
	n uint64
	s string
}{
	{0, "0000000000000"},
	{1, "0000000000001"},
	{9, "0000000000009"},
	{10, "000000000000a"},
	{31, "000000000000v"},
	{32, "0000000000010"},
	{33, "0000000000011"},
	{63, "000000000001v"},
	{64, "0000000000020"},
	{1023, "00000000000vv"},
	{1024, "0000000000100"},
	{1 << 32, "0000004000000"},
	{0x0123456789abcdef, "028q5cu4qnjff"},
	{1<<60 - 1, "0vvvvvvvvvvvv"},
	{11 << 55, "0b00000000000"},
	{24 << 55, "0o00000000000"},
	{1 << 60, "1000000000000"},
	{1<<63 - 1, "7vvvvvvvvvvvv"},
	{1 << 63, "8000000000000"},
	{1<<63 + 1, "8000000000001"},
	{greatest - 1, "fvvvvvvvvvvvu"},
	{greatest, "fvvvvvvvvvvvv"},
}

// numbers answers those written, all that are next to a power of 2, and others all over, the same at each run.
func numbers() []uint64 {
	var all []uint64
	for _, w := range written {
		all = append(all, w.n)
	}
	for bit := range 64 {
		power := uint64(1) << bit
		all = append(all, power-1, power, power+1, ^power)
	}
	x := uint64(7)
	for range 2000 {
		x = x*6364136223846793005 + 1442695040888963407
		all = append(all, x, x>>32)
	}
	slices.Sort(all)
	return slices.Compact(all)
}

// ofInWords tells the chapter's token again, by the library's digits.
func ofInWords(n uint64) string {
	digits := new(big.Int).SetUint64(n).Text(32)
	return strings.Repeat("0", 13-len(digits)) + digits
}

// readInWords tells again whose token a text is, sign by sign, by numbers that don't come round.
func readInWords(s string) (uint64, bool) {
	if len(s) != 13 {
		return 0, false
	}
	sum := new(big.Int)
	for i := range 13 {
		sign := strings.IndexByte(alphabet, s[i])
		if sign < 0 {
			return 0, false
		}
		sum.Add(sum.Mul(sum, big.NewInt(32)), big.NewInt(int64(sign)))
	}
	if !sum.IsUint64() {
		return 0, false
	}
	return sum.Uint64(), true
}

func tokensOf(l ...uint64) []string {
	var tokens []string
	for _, n := range l {
		tokens = append(tokens, ofInWords(n))
	}
	return tokens
}

// upTo answers the numbers from 1 to n.
func upTo(n int) []uint64 {
	var l []uint64
	for i := range n {
		l = append(l, uint64(i)+1)
	}
	return l
}

// wantNone fails if a text is read.
func wantNone(t *testing.T, s string) {
	t.Helper()
	if n, ok := Read(s); n != 0 || ok {
		t.Errorf("%q is read: %d %v", s, n, ok)
	}
}

// wantDraw fails if a Draw answers otherwise; an empty text for the token is ErrDraw.
func wantDraw(t *testing.T, l []uint64, known []string, tries int, token string, looked int) {
	t.Helper()
	want := api.OK
	if token == "" {
		want = api.ErrDraw
	}
	if s, n, e := Draw(l, known, tries); s != token || n != looked || e != want {
		t.Errorf("%d numbers, %d known, %d tries: %q, %d looked at, error %d, want %q, %d, %d", len(l), len(known), tries, s, n, e, token, looked, want)
	}
}

func TestTheChaptersExample(t *testing.T) {
	if s := Of(33); s != "0000000000011" {
		t.Error(s)
	}
}

func TestTokensAsTheyAreWritten(t *testing.T) {
	for _, w := range written {
		if s := Of(w.n); s != w.s {
			t.Errorf("of %d: %q, want %q", w.n, s, w.s)
		}
		if n, ok := Read(w.s); n != w.n || !ok {
			t.Errorf("read %q: %d %v, want %d", w.s, n, ok, w.n)
		}
	}
}

// P9.2: what is written is read, and is in the base 32.
func TestThereAndBackFromNumbers(t *testing.T) {
	for _, n := range numbers() {
		s := Of(n)
		if want := ofInWords(n); s != want {
			t.Errorf("of %d: %q, want %q", n, s, want)
		}
		if back, ok := Read(s); back != n || !ok {
			t.Errorf("%d there and back by %q: %d %v", n, s, back, ok)
		}
	}
}

// P9.2: two numbers have two tokens, and the greater one that which comes later among texts.
func TestTwoNumbersHaveTwoTokens(t *testing.T) {
	all := numbers()
	for i, n := range all[1:] {
		if a, b := Of(all[i]), Of(n); a >= b {
			t.Errorf("%d and %d: %q and %q", all[i], n, a, b)
		}
	}
	for a := range uint64(1100) {
		for _, b := range []uint64{a + 1, a + 32, a + 1024, a + 1<<32, a + 1<<60, a + 1<<63, greatest - a} {
			if Of(a) == Of(b) {
				t.Errorf("%d and %d: both %q", a, b, Of(a))
			}
		}
	}
}

// P9.2: what is read is just what is written, with each byte in each place.
func TestThereAndBackFromTexts(t *testing.T) {
	for _, w := range written {
		for place := range 13 {
			for b := range 256 {
				text := []byte(w.s)
				text[place] = byte(b)
				s := string(text)
				n, ok := Read(s)
				if want, wantOk := readInWords(s); n != want || ok != wantOk {
					t.Errorf("read %q: %d %v, want %d %v", s, n, ok, want, wantOk)
				}
				if ok && Of(n) != s {
					t.Errorf("%q there and back by %d: %q", s, n, Of(n))
				}
			}
		}
	}
}

func TestReadOfOtherLengths(t *testing.T) {
	wantNone(t, "")
	for _, sign := range []string{"0", "1", "f", "v"} {
		for length := range 40 {
			if length != 13 {
				wantNone(t, strings.Repeat(sign, length))
			}
		}
		wantNone(t, strings.Repeat(sign, 1<<20))
	}
	for _, w := range written {
		for _, s := range []string{w.s[1:], w.s[:12], "0" + w.s, w.s + "0", w.s + w.s, " " + w.s, w.s + " ", w.s + "\n", w.s + "\x00", "+" + w.s, "-" + w.s} {
			wantNone(t, s)
		}
	}
}

func TestReadOfOtherSigns(t *testing.T) {
	for _, sign := range []string{"/", ":", "`", "w", "x", "z", "@", "A", "F", "G", "V", "W", "Z", "[", "{", " ", "_", "+", "-", ".", "\x00", "\x7f", "\x80", "\xff"} {
		for place := range 13 {
			wantNone(t, strings.Repeat("0", place)+sign+strings.Repeat("0", 12-place))
		}
	}
	for _, s := range []string{"0A00000000000", "FVVVVVVVVVVVV", "fvvvvvvvvvvvV", "0x00000000000", "0_00000000000", "-000000000001", "+000000000001"} {
		wantNone(t, s)
	}
	// Signs of more than a byte: 13 bytes, and 13 signs.
	for _, s := range []string{"é00000000000", "00000000000é", "é000000000000", "000000000000é", "٠٠٠٠٠٠٠٠٠٠٠٠٠", strings.Repeat("０", 13)} {
		wantNone(t, s)
	}
}

// The highest place of 2^64 and more is more than 15.
func TestReadOfTextsThatStandForTooMuch(t *testing.T) {
	if n, ok := Read("fvvvvvvvvvvvv"); n != greatest || !ok {
		t.Error(n, ok)
	}
	for _, first := range alphabet {
		for _, others := range []string{"000000000000", "000000000001", "100000000000", "vvvvvvvvvvvv"} {
			s := string(first) + others
			if n, ok := Read(s); ok != (first <= 'f') || !ok && n != 0 {
				t.Errorf("read %q: %d %v", s, n, ok)
			}
		}
	}
}

func TestDrawOfNoNumbers(t *testing.T) {
	for _, tries := range []int{math.MinInt, -1, 0, 1, 2, 100, 101, math.MaxInt} {
		wantDraw(t, nil, nil, tries, "", 0)
		wantDraw(t, []uint64{}, []string{}, tries, "", 0)
		wantDraw(t, nil, tokensOf(1, 2), tries, "", 0)
	}
}

func TestDrawWithNoneKnown(t *testing.T) {
	for _, tries := range []int{math.MinInt, -1, 0, 1, 2, 100, 101, math.MaxInt} {
		wantDraw(t, []uint64{33}, nil, tries, "0000000000011", 1)
		wantDraw(t, []uint64{greatest, 1, 2}, []string{}, tries, "fvvvvvvvvvvvv", 1)
		wantDraw(t, []uint64{0, 0}, nil, tries, "0000000000000", 1)
	}
}

func TestDrawWithTheFirstKnown(t *testing.T) {
	for tries, looked := range map[int]int{math.MinInt: 1, -1: 1, 0: 1, 1: 1} {
		wantDraw(t, []uint64{1, 2, 3}, tokensOf(1), tries, "", looked)
	}
	for _, tries := range []int{2, 3, 4, 100, 101, math.MaxInt} {
		wantDraw(t, []uint64{1, 2, 3}, tokensOf(1), tries, ofInWords(2), 2)
		wantDraw(t, []uint64{1, 2, 3}, tokensOf(7, 1, 1), tries, ofInWords(2), 2)
		wantDraw(t, []uint64{1, 2, 3}, tokensOf(3, 2), tries, ofInWords(1), 1)
	}
}

func TestDrawWithAllKnown(t *testing.T) {
	for tries, looked := range map[int]int{math.MinInt: 1, -1: 1, 0: 1, 1: 1, 2: 2, 3: 3, 4: 3, 100: 3, 101: 3, math.MaxInt: 3} {
		wantDraw(t, []uint64{1, 2, 3}, tokensOf(1, 2, 3), tries, "", looked)
		wantDraw(t, []uint64{1, 2, 3}, tokensOf(3, 9, 1, 2), tries, "", looked)
		wantDraw(t, []uint64{5, 5, 5}, tokensOf(5), tries, "", looked)
	}
}

// The one that isn't known is found by as many tries as there are up to it, and by one fewer not.
func TestDrawByTries(t *testing.T) {
	for count := 1; count <= 103; count++ {
		l := upTo(count)
		known := tokensOf(l[:count-1]...)
		for tries := -1; tries <= 105; tries++ {
			if most := min(max(tries, 1), 100); most < count {
				wantDraw(t, l, known, tries, "", most)
			} else {
				wantDraw(t, l, known, tries, ofInWords(uint64(count)), count)
			}
		}
	}
}

func TestDrawOfAHundredAtMost(t *testing.T) {
	l := upTo(102)
	for _, tries := range []int{100, 101, 102, 1000, math.MaxInt} {
		wantDraw(t, l, tokensOf(l[:99]...), tries, ofInWords(100), 100)
		wantDraw(t, l, tokensOf(l[:100]...), tries, "", 100)
		wantDraw(t, l, tokensOf(l...), tries, "", 100)
	}
	wantDraw(t, l, tokensOf(l[:99]...), 99, "", 99)
}

// A number that comes again among those that are looked at is looked at again.
func TestDrawOfNumbersThatComeAgain(t *testing.T) {
	l := []uint64{1, 1, 2, 1, 2, 3}
	for tries, looked := range map[int]int{0: 1, 1: 1, 2: 2, 3: 3, 4: 4, 5: 5} {
		wantDraw(t, l, tokensOf(2, 1), tries, "", looked)
	}
	wantDraw(t, l, tokensOf(2, 1), 6, ofInWords(3), 6)
	wantDraw(t, l, tokensOf(1), 6, ofInWords(2), 3)
}

// What is known may be any texts; those that are no tokens are none's.
func TestDrawWithTextsThatAreNoTokens(t *testing.T) {
	others := []string{"", "1", "10", "a", "A", "00000000000A", "000000000000A", "000000000000a0", "0000000000000a", "00000000000a", " 000000000000a", "g000000000000", "\xff"}
	wantDraw(t, []uint64{10, 11}, others, 2, "000000000000a", 1)
	wantDraw(t, []uint64{10, 11}, append(others, "000000000000a"), 2, "000000000000b", 2)
	wantDraw(t, []uint64{10, 11}, append(others, "000000000000b", "000000000000a"), 2, "", 2)
}

func TestApart(t *testing.T) {
	for _, l := range [][]uint64{nil, {}, {0}, {1}, {greatest}, {1, 2}, {2, 1}, {0, greatest}, {3, 1, 2}, {1, 1 << 32, 1 << 33, 1 << 63}, {1<<63 + 1, 1}} {
		if !Apart(l) {
			t.Errorf("%d aren't apart", l)
		}
	}
	for _, l := range [][]uint64{{0, 0}, {greatest, greatest}, {1, 1}, {1, 1, 2}, {2, 1, 1}, {1, 2, 1}, {0, 1, 2, 0}, {3, 1, 2, 1, 4}, {1, 1, 1}, {1, 2, 2, 1}} {
		if Apart(l) {
			t.Errorf("%d are apart", l)
		}
	}
}

// One number twice, wherever the two stand.
func TestApartOfTwoThatAreAlike(t *testing.T) {
	for count := range 40 {
		l := upTo(count)
		if !Apart(l) {
			t.Fatalf("%d aren't apart", l)
		}
		for i := range count {
			for j := range count {
				again := slices.Clone(l)
				again[i] = again[j]
				if Apart(again) != (i == j) {
					t.Fatalf("%d: apart %v", again, i != j)
				}
			}
		}
	}
	long := upTo(100000)
	if !Apart(long) {
		t.Error("a long list isn't apart")
	}
	long[len(long)-1] = long[0]
	if Apart(long) {
		t.Error("the ends of a long list are alike")
	}
}

func TestMixedNumbers(t *testing.T) {
	for _, x := range []struct {
		seed uint64
		want []uint64
	}{
		{1, []uint64{1082269761, 1152992998833853505, 11177516664432764457, 17678023832001937445}},
		{0, []uint64{1082269761, 1152992998833853505, 11177516664432764457, 17678023832001937445}},
		{1 << 63, []uint64{9295429630892703744, 9223934986808197120, 14520172546642411520}},
		{greatest, []uint64{1065361344, 1152851127339773951, 508277857751731680}},
		{88172645463325252, []uint64{8748534153485358512, 3040900993826735515}},
	} {
		for n := range x.want {
			if l := Mix(x.seed, n+1); !slices.Equal(l, x.want[:n+1]) {
				t.Errorf("%d numbers of %d: %d, want %d", n+1, x.seed, l, x.want[:n+1])
			}
		}
	}
	if l := Mix(1, 1000); l[999] != 11424263524947540013 {
		t.Error(l[999])
	}
}

// shifted answers x, exclusive or x shifted left (right, where by is below 0), by a number that doesn't come round.
func shifted(x *big.Int, by int) *big.Int {
	other := new(big.Int)
	if by < 0 {
		other.Rsh(x, uint(-by))
	} else {
		other.Mod(other.Lsh(x, uint(by)), new(big.Int).Lsh(big.NewInt(1), 64))
	}
	return other.Xor(x, other)
}

// Each number is made of the one ahead of it, as the chapter says.
func TestMixMakesEachOfTheOneAhead(t *testing.T) {
	for _, seed := range numbers()[1:] {
		ahead := seed
		for i, n := range Mix(seed, 5) {
			want := shifted(shifted(shifted(new(big.Int).SetUint64(ahead), 13), -7), 17).Uint64()
			if n != want {
				t.Fatalf("number %d of %d: %d, want %d", i, seed, n, want)
			}
			ahead = n
		}
		if one := Mix(seed, 2); !slices.Equal(one[1:], Mix(one[0], 1)) {
			t.Fatalf("of %d: %d, then of that %d", seed, one, Mix(one[0], 1))
		}
	}
}

func TestMixOfManyAndFew(t *testing.T) {
	for _, seed := range []uint64{0, 1, 2, 1 << 63, greatest} {
		all := Mix(seed, 1000)
		for n, want := range map[int]int{math.MinInt: 0, -1000: 0, -1: 0, 0: 0, 1: 1, 2: 2, 999: 999, 1000: 1000, 1001: 1000, 1 << 32: 1000, math.MaxInt: 1000} {
			if l := Mix(seed, n); len(l) != want || !slices.Equal(l, all[:want]) {
				t.Errorf("%d numbers of %d: %d, want %d", n, seed, len(l), want)
			}
		}
		if !slices.Equal(all, Mix(max(seed, 1), 1000)) || !Apart(all) || slices.Contains(all, 0) {
			t.Errorf("the numbers of %d", seed)
		}
	}
}

// R4: what is handed in stays as it was, and each answer is new memory.
func TestArgumentsStayAndAnswersAreNew(t *testing.T) {
	l, known := []uint64{3, 1, 2, 1, 9}, []string{Of(3), "b", Of(1), "a"}
	keptL, keptKnown := slices.Clone(l), slices.Clone(known)
	for tries := range 7 {
		Draw(l, known, tries)
		Draw(l[:2], known[:1], tries)
	}
	Apart(l)
	Apart(l[:3])
	if !slices.Equal(l, keptL) || !slices.Equal(known, keptKnown) {
		t.Error(l, known)
	}
	one, other := Mix(5, 3), Mix(5, 3)
	one[0], one[2] = 0, 0
	if slices.Equal(one, other) || !slices.Equal(other, Mix(5, 3)) {
		t.Error(one, other)
	}
}

// R6: a call answers the same, whatever was called ahead of it.
func TestNothingIsKept(t *testing.T) {
	for range 3 {
		wantDraw(t, []uint64{1, 2}, nil, 2, ofInWords(1), 1)
		wantDraw(t, []uint64{1, 2}, tokensOf(1), 2, ofInWords(2), 2)
		wantDraw(t, []uint64{1}, tokensOf(1), 2, "", 1)
		if !Apart([]uint64{1, 2}) || Apart([]uint64{2, 2}) || Mix(1, 1)[0] != 1082269761 || Of(1) != "0000000000001" {
			t.Error("an answer of another time")
		}
	}
}
