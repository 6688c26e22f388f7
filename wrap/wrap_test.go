package wrap

import (
	"math"
	"math/big"
	"slices"
	"strings"
	"testing"
)

const last = 4294967295

// edges are the numbers next to which the chapter's answers change, and some between them.
var edges = []uint32{0, 1, 2, 3, 9, 10, 41, 65535, 65536, 1<<31 - 2, 1<<31 - 1, 1 << 31, 1<<31 + 1, 1<<31 + 2, 3000000000, last - 9, last - 2, last - 1, last}

// stepCounts are how far Add may go: each of these on, and back.
var stepCounts = []int{0, 1, 2, 10, 65536, 1<<31 - 1, 1 << 31, 1<<31 + 1, 1<<32 - 1, 1 << 32, 1<<32 + 1, 3<<32 - 1, 3 << 32, 3<<32 + 7, 1<<53 + 1, math.MaxInt - 1, math.MaxInt}

func stepsBothWays() []int {
	both := []int{math.MinInt, math.MinInt + 1, math.MinInt + 5}
	for _, n := range stepCounts {
		both = append(both, n, -n)
	}
	return both
}

// more answers numbers all over the circle, the same at each run.
func more(count int) []uint32 {
	l, x := make([]uint32, count), uint64(7)
	for i := range l {
		x = x*6364136223846793005 + 1442695040888963407
		l[i] = uint32(x >> 32)
	}
	return l
}

// aroundOf answers n modulo 2^32, by numbers that don't come round.
func aroundOf(n *big.Int) uint32 {
	return uint32(new(big.Int).Mod(n, big.NewInt(1<<32)).Uint64())
}

// wayOf answers the steps from one number to another, by numbers that don't come round.
func wayOf(from, to uint32) int64 {
	way := int64(to) - int64(from)
	if way < 0 {
		way += 1 << 32
	}
	return way
}

func TestAddOfNumbers(t *testing.T) {
	for _, x := range []struct {
		h    uint32
		n    int
		want uint32
	}{
		{0, 0, 0},
		{7, 0, 7},
		{7, 5, 12},
		{7, -5, 2},
		{last, 0, last},
		{last, 1, 0},
		{last, 2, 1},
		{0, -1, last},
		{5, -6, last},
		{0, last, last},
		{1, last, 0},
		{0, -last, 1},
		{last, -last, 0},
		{1, 1 << 32, 1},
		{1, -1 << 32, 1},
		{1, 1<<32 + 1, 2},
		{1, -1<<32 - 1, 0},
		{0, -1<<32 - 1, last},
		{5, 7<<32 - 6, last},
		{5, -7<<32 + 6, 11},
		{0, 1 << 31, 1 << 31},
		{1 << 31, 1 << 31, 0},
		{1 << 31, -1 << 31, 0},
		{0, -1 << 31, 1 << 31},
		{0, math.MaxInt, last},
		{1, math.MaxInt, 0},
		{0, math.MinInt, 0},
		{9, math.MinInt, 9},
		{last, math.MinInt + 1, 0},
	} {
		if got := Add(x.h, x.n); got != x.want {
			t.Errorf("%d and %d: %d, want %d", x.h, x.n, got, x.want)
		}
	}
}

func TestAddIsModulo(t *testing.T) {
	for _, h := range append(more(200), edges...) {
		for _, n := range stepsBothWays() {
			sum := new(big.Int).Add(big.NewInt(int64(h)), big.NewInt(int64(n)))
			if got := Add(h, n); got != aroundOf(sum) {
				t.Fatalf("%d and %d: %d, want %d", h, n, got, aroundOf(sum))
			}
		}
	}
}

func TestAheadOfNumbers(t *testing.T) {
	for _, x := range []struct{ from, to, want uint32 }{
		{0, 0, 0},
		{7, 7, 0},
		{last, last, 0},
		{1, 2, 1},
		{2, 1, last},
		{last, 2, 3},
		{last, 0, 1},
		{0, last, last},
		{1, 0, last},
		{0, 1 << 31, 1 << 31},
		{1 << 31, 0, 1 << 31},
		{1<<31 + 1, 0, 1<<31 - 1},
	} {
		if got := Ahead(x.from, x.to); got != x.want {
			t.Errorf("from %d to %d: %d, want %d", x.from, x.to, got, x.want)
		}
	}
}

func TestAheadIsTheWay(t *testing.T) {
	all := append(more(200), edges...)
	for _, from := range all {
		for _, to := range all {
			way := Ahead(from, to)
			if int64(way) != wayOf(from, to) {
				t.Fatalf("from %d to %d: %d, want %d", from, to, way, wayOf(from, to))
			}
			if Add(from, int(way)) != to || Add(to, -int(way)) != from {
				t.Fatalf("%d steps from %d do not lead to %d and back", way, from, to)
			}
		}
	}
}

func TestStepsOnAndBackAreNone(t *testing.T) {
	for _, h := range append(more(200), edges...) {
		for _, n := range stepsBothWays() {
			if Add(Add(h, n), -n) != h || Add(Add(h, -n), n) != h {
				t.Fatalf("%d, %d on and back, is %d and %d", h, n, Add(Add(h, n), -n), Add(Add(h, -n), n))
			}
		}
	}
}

func TestWithinOfNumbers(t *testing.T) {
	for _, x := range []struct {
		h, from, to uint32
		want        bool
	}{
		{5, 5, 5, true},
		{6, 5, 5, false},
		{4, 5, 5, false},
		{0, 0, 0, true},
		{last, 0, 0, false},
		{last, last, last, true},
		{0, last, last, false},
		{1, 1, 5, true},
		{3, 1, 5, true},
		{5, 1, 5, true},
		{0, 1, 5, false},
		{6, 1, 5, false},
		{last, last, 1, true},
		{0, last, 1, true},
		{1, last, 1, true},
		{2, last, 1, false},
		{last - 1, last, 1, false},
		{0, 0, last, true},
		{77, 0, last, true},
		{last, 0, last, true},
		{5, 6, 4, false}, // all but one
		{4, 6, 4, true},
		{6, 6, 4, true},
		{0, 6, 4, true},
		{5, 6, 5, true}, // all
		{1 << 31, 0, 1 << 31, true},
		{1<<31 + 1, 0, 1 << 31, false},
	} {
		if got := Within(x.h, x.from, x.to); got != x.want {
			t.Errorf("%d from %d to %d: %v", x.h, x.from, x.to, got)
		}
	}
}

func TestWithinIsWhatIsWalkedBy(t *testing.T) {
	for _, from := range append(more(20), edges...) {
		walked := map[uint32]bool{}
		to := from
		for range 12 {
			walked[to] = true
			for k := -15; k <= 15; k++ {
				h := uint32((int64(from) + int64(k) + 1<<32) % (1 << 32))
				if Within(h, from, to) != walked[h] {
					t.Fatalf("%d from %d to %d: %v", h, from, to, !walked[h])
				}
			}
			if to == last {
				to = 0
			} else {
				to++
			}
		}
	}
}

func TestWithinJustIfTheWayIsNotLonger(t *testing.T) {
	all := append(more(40), edges...)
	for _, from := range all {
		for _, to := range all {
			for _, h := range all {
				longer := wayOf(from, h)+wayOf(h, to) > wayOf(from, to)
				if Within(h, from, to) == longer {
					t.Fatalf("%d from %d to %d: within %v", h, from, to, !longer)
				}
				if spans := Span([]uint32{from, h, to}) > Ahead(from, to); spans != longer {
					t.Fatalf("%d from %d to %d: spans more %v", h, from, to, spans)
				}
			}
		}
	}
}

func TestLessOfNumbers(t *testing.T) {
	for _, a := range append(more(50), edges...) {
		for _, x := range []struct {
			way  int
			want bool
		}{
			{0, false},
			{1, true},
			{2, true},
			{65536, true},
			{1<<31 - 2, true},
			{1<<31 - 1, true},
			{1 << 31, false},
			{1<<31 + 1, false},
			{last - 1, false},
			{last, false},
		} {
			b := uint32((int(a) + x.way) % (1 << 32))
			if got := Less(a, b); got != x.want {
				t.Errorf("%d and %d, %d steps on: %v", a, b, x.way, got)
			}
		}
	}
	if !Less(last, 0) || Less(0, last) || Less(0, 1<<31) || Less(1<<31, 0) || !Less(1<<31+1, 0) {
		t.Error("where it comes round")
	}
}

func TestTextOfNumbers(t *testing.T) {
	for h, want := range map[uint32]string{
		0:         "0",
		1:         "1",
		9:         "9",
		10:        "10",
		100:       "100",
		65535:     "65535",
		1<<31 - 1: "2147483647",
		1 << 31:   "2147483648",
		last - 1:  "4294967294",
		last:      "4294967295",
	} {
		if got := Text(h); got != want {
			t.Errorf("%d: %q, want %q", h, got, want)
		}
	}
}

func TestReadOfTexts(t *testing.T) {
	for s, want := range map[string]uint32{
		"0":          0,
		"1":          1,
		"9":          9,
		"10":         10,
		"42":         42,
		"999999999":  999999999,
		"1000000000": 1000000000,
		"2147483647": 1<<31 - 1,
		"2147483648": 1 << 31,
		"4294967289": last - 6,
		"4294967295": last,
	} {
		if n, ok := Read(s); n != want || !ok {
			t.Errorf("%q: %d %v, want %d", s, n, ok, want)
		}
	}
}

func TestReadRefuses(t *testing.T) {
	for _, s := range []string{
		"",
		"00", "01", "007", "04294967295", "00000000000", "000000000001",
		"4294967296", "4294967297", "4294967300", "4294967305", "4300000000", "5000000000", "9999999999",
		"10000000000", "42949672950", "42949672960",
		"9223372036854775807", "9223372036854775808", "18446744073709551615", "18446744073709551616", "18446744073709551617", "99999999999999999999",
		"340282366920938463463374607431768211456", strings.Repeat("9", 1<<16), strings.Repeat("0", 1<<16), "1" + strings.Repeat("0", 1<<16),
		"-", "+", "-0", "+0", "-1", "+1", "--1", "1-", "1+",
		" ", " 1", "1 ", "1 2", "\t1", "1\n", "1\r\n", "\x001", "1\x00",
		"1_000", "1,000", "1.0", "1.", ".1", "1e3", "0x1", "0X1F", "0b1", "0o7", "1f", "f", "a", "x", "NaN", "Inf",
		"\u0661", "1\u0662", "\uff11", "\u00b2", "\xff", "1\xff", "1/", "1:",
	} {
		if n, ok := Read(s); n != 0 || ok {
			t.Errorf("%.40q: %d %v", s, n, ok)
		}
	}
}

func TestReadOfEveryByteAmongDigits(t *testing.T) {
	for b := range 256 {
		sign := string([]byte{byte(b)})
		digit := b >= '0' && b <= '9'
		for s, want := range map[string]bool{
			sign:               digit,
			sign + "1":         digit && b != '0',
			"1" + sign:         digit,
			"1" + sign + "2":   digit,
			"429496729" + sign: digit && b <= '5',
		} {
			n, ok := Read(s)
			if ok != want || !ok && n != 0 {
				t.Errorf("%q: %d %v", s, n, ok)
			}
			if ok && Text(n) != s {
				t.Errorf("%q is read as %d", s, n)
			}
		}
	}
}

// expectedRead tells the chapter's words again: digits alone, no nought ahead, at most 4294967295.
func expectedRead(s string) (uint32, bool) {
	if s == "" || strings.Trim(s, "0123456789") != "" || len(s) > 1 && s[0] == '0' {
		return 0, false
	}
	n, ok := new(big.Int).SetString(s, 10)
	if !ok || n.Cmp(big.NewInt(last)) > 0 {
		return 0, false
	}
	return uint32(n.Uint64()), true
}

func TestReadOfAllShortTexts(t *testing.T) {
	var grow func(s string)
	grow = func(s string) {
		n, ok := Read(s)
		if k, want := expectedRead(s); n != k || ok != want {
			t.Fatalf("%q: %d %v, want %d %v", s, n, ok, k, want)
		}
		if len(s) == 5 {
			return
		}
		for _, next := range []string{"0", "1", "9", "-", "+", " ", "_", "x", "e", "."} {
			grow(s + next)
		}
	}
	grow("")
}

func TestReadAroundTheGreatest(t *testing.T) {
	for n := int64(last - 2000); n <= last+2000; n++ {
		s := big.NewInt(n).String()
		got, ok := Read(s)
		if ok != (n <= last) || ok && int64(got) != n || !ok && got != 0 {
			t.Fatalf("%s: %d %v", s, got, ok)
		}
	}
}

func TestTextComesBack(t *testing.T) {
	for _, h := range append(more(20000), edges...) {
		s := Text(h)
		if s != big.NewInt(int64(h)).String() {
			t.Fatalf("%d: %q", h, s)
		}
		if back, ok := Read(s); back != h || !ok {
			t.Fatalf("%d: %q comes back as %d %v", h, s, back, ok)
		}
		if n, ok := Read("0" + s); n != 0 || ok {
			t.Fatalf("0%s: %d %v", s, n, ok)
		}
	}
}

func TestSpanOfLists(t *testing.T) {
	for i, x := range []struct {
		l    []uint32
		want uint32
	}{
		{nil, 0},
		{[]uint32{}, 0},
		{[]uint32{0}, 0},
		{[]uint32{last}, 0},
		{[]uint32{7, 7}, 0},
		{[]uint32{7, 7, 7, 7}, 0},
		{[]uint32{1, 9}, 8},
		{[]uint32{1, 3, 9}, 8},
		{[]uint32{1, 3, 3, 9, 9}, 8},
		{[]uint32{last, 2}, 3},
		{[]uint32{last - 1, last, 0, 5}, 7},
		{[]uint32{9, 1}, last - 7},
		{[]uint32{0, last - 1}, last - 1},
		{[]uint32{0, 5, last - 1}, last - 1},
		{[]uint32{0, last}, last},
		{[]uint32{0, 1 << 31, last}, last},
		{[]uint32{1, 0}, last},
		{[]uint32{6, 9, 2, 5}, last},
		{[]uint32{0, 1 << 31, 0}, last}, // 2^32 in all
		{[]uint32{7, 6, 7}, last},
		{[]uint32{1, 3, 2}, last}, // 2^32 + 1 in all
		{[]uint32{0, last, last - 1}, last},
		{[]uint32{7, 6, 7, 6, 7}, last},            // 2^33 in all
		{[]uint32{7, 6, 7, 6, 7, 12}, last},        // what follows makes it no less
		{[]uint32{7, 6, 7, 7, 7}, last},            // nor do steps that are none
		{[]uint32{0, 1 << 31, 0, 1<<31 + 1}, last}, // past the bound in two goes
	} {
		if got := Span(x.l); got != x.want {
			t.Errorf("%d: %v: %d, want %d", i, x.l, got, x.want)
		}
	}
}

func TestSpanIsTheWholeWay(t *testing.T) {
	all := append(more(400), edges...)
	for first := range all {
		steps := int64(0)
		for end := first + 1; end <= min(len(all), first+9); end++ {
			if end-first > 1 {
				steps += wayOf(all[end-2], all[end-1])
			}
			if got := Span(all[first:end]); int64(got) != min(steps, last) {
				t.Fatalf("%v: %d, want %d", all[first:end], got, min(steps, last))
			}
		}
	}
}

func TestSpanOfSmallSteps(t *testing.T) {
	for _, from := range edges {
		l, steps := []uint32{from}, 0
		for i := range 3000 {
			steps += i % 7
			l = append(l, uint32((int(from)+steps)%(1<<32)))
		}
		if got := Span(l); int(got) != steps {
			t.Fatalf("from %d: %d, want %d", from, got, steps)
		}
	}
}

func TestSpanLeavesItsList(t *testing.T) {
	l := []uint32{5, 2, last, 0, 9}
	kept := slices.Clone(l)
	first := Span(l)
	if !slices.Equal(l, kept) || Span(l) != first || Span(l[:2:2]) != Span([]uint32{5, 2}) {
		t.Error("a list is changed, or kept")
	}
}

// Every call ends and none panics, at long lists and texts too.
func TestCallsEnd(t *testing.T) {
	all := append(more(100), edges...)
	for _, a := range all {
		for _, b := range all {
			Less(a, b)
			Within(a, b, a)
		}
	}
	if n := Span(make([]uint32, 1<<20)); n != 0 {
		t.Error(n)
	}
	if n := Span(more(1 << 20)); n != last {
		t.Error(n)
	}
	for _, s := range []string{strings.Repeat("1", 1<<20), strings.Repeat("\x00", 1<<20), strings.Repeat("-", 1<<20)} {
		if n, ok := Read(s); n != 0 || ok {
			t.Errorf("%d bytes: %d %v", len(s), n, ok)
		}
	}
}
