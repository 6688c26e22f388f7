package signs

import (
	"strings"
	"testing"

	"tidewater/api"
)

// bytesOf tells the sign n by that many bytes, worked out from the chapter's words alone, not by the library.
func bytesOf(n, count int) string {
	if count == 1 {
		return string([]byte{byte(n)})
	}
	first := [5]int{0, 0, 192, 224, 240}[count]
	b := make([]byte, count)
	for i := count - 1; i > 0; i-- {
		b[i] = byte(128 + n%64)
		n /= 64
	}
	b[0] = byte(first + n)
	return string(b)
}

func fewest(n int) int {
	switch {
	case n < 128:
		return 1
	case n < 2048:
		return 2
	case n < 65536:
		return 3
	}
	return 4
}

func signMayBe(n int) bool {
	if n < 32 {
		return n == 9 || n == 10 || n == 13
	}
	return n < 55296 || n > 57343 && n != 65534 && n != 65535 && n <= 1114111
}

// tellings answers the bytes of all signs that may be, and all their beginnings of 1 to 3 bytes.
func tellings() (all, begun map[string]bool) {
	all, begun = map[string]bool{}, map[string]bool{}
	for n := range 1114112 {
		if !signMayBe(n) {
			continue
		}
		s := bytesOf(n, fewest(n))
		all[s] = true
		for i := 1; i < len(s); i++ {
			begun[s[:i]] = true
		}
	}
	return all, begun
}

func expectedWhole(s string, all, begun map[string]bool) (int, api.Errno) {
	at := 0
next:
	for at < len(s) {
		for k := 1; k <= 4 && at+k <= len(s); k++ {
			if all[s[at:at+k]] {
				at += k
				continue next
			}
		}
		if begun[s[at:]] {
			return at, api.OK
		}
		return 0, api.ErrSign
	}
	return at, api.OK
}

// edgeBytes are those next to which the rules of signs change.
const edgeBytes = "\x00\x09\x1fa&<\x7f\x80\x8f\x90\x9f\xa0\xbd\xbe\xbf\xc0\xc1\xc2\xdf\xe0\xe1\xec\xed\xee\xef\xf0\xf1\xf3\xf4\xf5\xff"

// forAll calls f with every text of at most that many bytes out of those given.
func forAll(most int, from string, f func(s string)) {
	var grow func(s string)
	grow = func(s string) {
		f(s)
		if len(s) == most {
			return
		}
		for i := range len(from) {
			grow(s + from[i:i+1])
		}
	}
	grow("")
}

func everyByte() string {
	b := make([]byte, 256)
	for i := range b {
		b[i] = byte(i)
	}
	return string(b)
}

func TestRightOfEverySign(t *testing.T) {
	for n := range 1114112 + 4096 {
		want := api.ErrSign
		if signMayBe(n) {
			want = api.OK
		}
		s := bytesOf(n, fewest(n))
		if e := Right(s); e != want {
			t.Fatalf("sign %d: %d, want %d", n, e, want)
		}
		if e := Right("é" + s + "😀"); e != want {
			t.Fatalf("sign %d between others: %d, want %d", n, e, want)
		}
	}
}

func TestRightRefusesMoreBytesThanNeeded(t *testing.T) {
	for n := range 65536 {
		for count := fewest(n) + 1; count <= 4; count++ {
			s := bytesOf(n, count)
			if e := Right(s); e != api.ErrSign {
				t.Fatalf("sign %d by %d bytes: %d", n, count, e)
			}
			if k, e := Whole("a" + s); k != 0 || e != api.ErrSign {
				t.Fatalf("sign %d by %d bytes: whole %d %d", n, count, k, e)
			}
		}
	}
}

func TestRightOfTexts(t *testing.T) {
	for _, x := range []struct {
		s    string
		want api.Errno
	}{
		{"", api.OK},
		{"a é € 😀", api.OK},
		{"\t\n\r ~\x7f", api.OK},
		{"\xc2\x80", api.OK},
		{"\ufffd", api.OK},            // the sign that the language also answers for no sign
		{"\xef\xbf\xbe", api.ErrSign}, // 65534
		{"\xef\xbf\xbf", api.ErrSign}, // 65535
		{"\U0001fffe", api.OK},        // only 65534 itself may not be
		{"\xf4\x8f\xbf\xbf", api.OK},  // 1114111
		{"\xf4\x90\x80\x80", api.ErrSign},
		{"\xf8\x88\x80\x80\x80", api.ErrSign},
		{"\xed\x9f\xbf", api.OK},      // 55295
		{"\xed\xa0\x80", api.ErrSign}, // 55296
		{"\xed\xbf\xbf", api.ErrSign}, // 57343
		{"\xee\x80\x80", api.OK},      // 57344
		{"\x00", api.ErrSign},
		{"\x08", api.ErrSign},
		{"\x0b", api.ErrSign},
		{"\x1f", api.ErrSign},
		{"abc\xc3", api.ErrSign}, // an end that isn't whole isn't right
		{"abc\xf0\x9f\x98", api.ErrSign},
		{"\xc3a", api.ErrSign},
		{"\x80", api.ErrSign},
		{"\ufffd\xff", api.ErrSign},
		{"\xef\xbf\ufffd", api.ErrSign},
	} {
		if e := Right(x.s); e != x.want {
			t.Errorf("%q: %d, want %d", x.s, e, x.want)
		}
	}
}

func TestWholeOfTexts(t *testing.T) {
	for _, x := range []struct {
		s    string
		n    int
		want api.Errno
	}{
		{"", 0, api.OK},
		{"ab", 2, api.OK},
		{"aé€😀", 10, api.OK},
		{"\xc3", 0, api.OK},
		{"a\xc3", 1, api.OK},
		{"é\xe2", 2, api.OK},
		{"é\xe2\x82", 2, api.OK},
		{"€\xf0", 3, api.OK},
		{"€\xf0\x9f", 3, api.OK},
		{"€\xf0\x9f\x98", 3, api.OK},
		{"\xe0\xa0", 0, api.OK},
		{"\xe0\x9f", 0, api.ErrSign},
		{"\xed\x9f", 0, api.OK},
		{"\xed\xa0", 0, api.ErrSign},
		{"\xef\xbf", 0, api.OK},
		{"\ufffd\xef\xbf", 3, api.OK},
		{"a\xef\xbf\xbe", 0, api.ErrSign},
		{"\xf0\x90", 0, api.OK},
		{"\xf0\x8f", 0, api.ErrSign},
		{"\xf4\x8f\xbf", 0, api.OK},
		{"\xf4\x90", 0, api.ErrSign},
		{"\xf5", 0, api.ErrSign},
		{"a\xc0", 0, api.ErrSign},
		{"a\xc1", 0, api.ErrSign},
		{"a\x80", 0, api.ErrSign},
		{"a\xff", 0, api.ErrSign},
		{"a\xe2a", 0, api.ErrSign},
		{"a\xe2\x82a", 0, api.ErrSign},
		{"a\xf0\x9f\x98a", 0, api.ErrSign},
		{"a\xc3\xc3", 0, api.ErrSign},
		{"a\x00\xc3", 0, api.ErrSign},
		{"a\x1f", 0, api.ErrSign},
	} {
		if n, e := Whole(x.s); n != x.n || e != x.want {
			t.Errorf("%q: %d %d, want %d %d", x.s, n, e, x.n, x.want)
		}
	}
}

func TestWholeOfAllShortTexts(t *testing.T) {
	all, begun := tellings()
	check := func(s string) {
		n, e := Whole(s)
		if k, want := expectedWhole(s, all, begun); n != k || e != want {
			t.Fatalf("%q: %d %d, want %d %d", s, n, e, k, want)
		}
		if right := Right(s) == api.OK; right != (e == api.OK && n == len(s)) {
			t.Fatalf("%q: whole %d %d, right %v", s, n, e, right)
		}
	}
	forAll(2, everyByte(), check)
	forAll(4, edgeBytes, check)
}

// inPieces puts together what Whole answers of each piece, with what the piece ahead of it left.
func inPieces(pieces ...string) (string, string, api.Errno) {
	done, left := "", ""
	for _, p := range pieces {
		left += p
		n, e := Whole(left)
		if e != api.OK {
			return "", "", e
		}
		done, left = done+left[:n], left[n:]
	}
	return done, left, api.OK
}

func TestWholePieceByPiece(t *testing.T) {
	texts := []string{"a é € 😀 \ufffd\t\U0010ffff", "a€\xf0\x9f\x98", "é\xe2\x82", "é\xe2\x82a€", "😀\xed\xa0\x80é", "\xef\xbf\xbf", "aé\x00"}
	for _, s := range texts {
		n, want := Whole(s)
		for i := range len(s) + 1 {
			for j := i; j <= len(s); j++ {
				done, left, e := inPieces(s[:i], s[i:j], s[j:])
				if e != want || e == api.OK && (done != s[:n] || left != s[n:]) {
					t.Fatalf("%q at %d and %d: %q %q %d", s, i, j, done, left, e)
				}
				if e == api.OK && (Right(done) != api.OK || len(left) > 3) {
					t.Fatalf("%q at %d and %d: %q is put together, %q left", s, i, j, done, left)
				}
			}
		}
	}
}

func TestEscapeOfTexts(t *testing.T) {
	for s, want := range map[string]string{
		"":                "",
		"a<b":             "a&lt;b",
		"&<>\"'":          "&amp;&lt;&gt;&quot;&apos;",
		"&amp;":           "&amp;amp;",
		"é€😀\ufffd\t\r\n": "é€😀\ufffd\t\r\n",
		"\u00ab;lt;":      "\u00ab;lt;",
	} {
		if x, e := Escape(s); x != want || e != api.OK {
			t.Errorf("%q: %q %d, want %q", s, x, e, want)
		}
	}
	for _, s := range []string{"\x00", "a<\x1f", "<\xc3", "a\xef\xbf\xbe", "\xc0\x80", "\xed\xa0\x80<"} {
		if x, e := Escape(s); x != "" || e != api.ErrSign {
			t.Errorf("%q: %q %d, want ErrSign", s, x, e)
		}
	}
}

func TestUnescapeOfTexts(t *testing.T) {
	for s, want := range map[string]string{
		"":                              "",
		"a&lt;b":                        "a<b",
		"&amp;&lt;&gt;&quot;&apos;":     "&<>\"'",
		"&amp;lt;":                      "&lt;",
		"&amp;amp;amp;":                 "&amp;amp;",
		"a>b\"c'd;":                     "a>b\"c'd;",
		"é&lt;€&gt;😀\ufffd\t\r\n&apos;": "é<€>😀\ufffd\t\r\n'",
	} {
		if x, e := Unescape(s); x != want || e != api.OK {
			t.Errorf("%q: %q %d, want %q", s, x, e, want)
		}
	}
}

func TestUnescapeRefuses(t *testing.T) {
	for s, want := range map[string]api.Errno{
		"<":          api.ErrForm,
		"a<b":        api.ErrForm,
		"&amp;<":     api.ErrForm,
		"&":          api.ErrForm,
		"a&":         api.ErrForm,
		"&;":         api.ErrForm,
		"&amp":       api.ErrForm,
		"&am&amp;p;": api.ErrForm,
		"&&amp;":     api.ErrForm,
		"&AMP;":      api.ErrForm,
		"&Lt;":       api.ErrForm,
		"& lt;":      api.ErrForm,
		"&nbsp;":     api.ErrForm,
		"&#60;":      api.ErrForm,
		"&lt":        api.ErrForm,
		"&ltt;":      api.ErrForm,
		"\x01":       api.ErrSign,
		"<\x01":      api.ErrSign, // ErrSign comes first, wherever it is
		"&\xc3":      api.ErrSign,
		"&lt;\xc3":   api.ErrSign,
		"&amp\xff;":  api.ErrSign,
	} {
		if x, e := Unescape(s); x != "" || e != want {
			t.Errorf("%q: %q %d, want %d", s, x, e, want)
		}
	}
}

func TestEscapedComesBack(t *testing.T) {
	check := func(s string) {
		x, e := Escape(s)
		if e != Right(s) {
			t.Fatalf("%q: %d, right %d", s, e, Right(s))
		}
		if e != api.OK {
			return
		}
		if strings.ContainsAny(x, "<>\"'") {
			t.Fatalf("%q: %q", s, x)
		}
		if back, e := Unescape(x); back != s || e != api.OK {
			t.Fatalf("%q: %q comes back as %q %d", s, x, back, e)
		}
	}
	forAll(6, "&<>\"'a;", check)
	forAll(2, everyByte(), check)
	forAll(4, edgeBytes, check)
	for _, s := range []string{"&amp;", "&amp;lt;", "😀&€<é>\ufffd\"'", "&&quot;;"} {
		check(s)
	}
}

func TestNameOfTexts(t *testing.T) {
	for s, want := range map[string]bool{
		"":                      false,
		"a":                     true,
		"z":                     true,
		"iq":                    true,
		"a:b-1":                 true,
		"a-":                    true,
		"a:":                    true,
		"a0123456789":           true,
		"abcdefghijklmnop":      true,
		"abcdefghijklmnopq":     false,
		"a--------------9":      true,
		"a---------------9":     false,
		"aaaaaaaaaaaaaaé":       false, // 16 bytes
		"é":                     false,
		"aé":                    false,
		"a\xff":                 false,
		"1a":                    false,
		"-a":                    false,
		":a":                    false,
		"A":                     false,
		"aB":                    false,
		"a b":                   false,
		"a_b":                   false,
		"a.b":                   false,
		"a\x00":                 false,
		strings.Repeat("a", 99): false,
	} {
		if Name(s) != want {
			t.Errorf("%q: %v", s, !want)
		}
	}
}

func TestNameOfEveryByte(t *testing.T) {
	first := "abcdefghijklmnopqrstuvwxyz"
	later := first + "0123456789-:"
	for b := range 256 {
		s := string([]byte{byte(b)})
		if Name(s) != strings.Contains(first, s) {
			t.Errorf("first %q", s)
		}
		for _, x := range []string{"a" + s, "a" + s + "z", strings.Repeat("a", 15) + s} {
			if Name(x) != strings.Contains(later, s) {
				t.Errorf("later %q", x)
			}
		}
	}
}

// Every call ends and none panics: the forAll tests give the others all short texts, this one gives the last of them.
func TestCallsEnd(t *testing.T) {
	check := func(s string) {
		Name(s)
		if x, e := Unescape(s); e != api.OK && x != "" {
			t.Fatalf("%q: %q beside %d", s, x, e)
		}
	}
	forAll(2, everyByte(), check)
	forAll(4, edgeBytes, check)
	long := strings.Repeat("é&<>\"'", 1<<16)
	x, e := Escape(long)
	if e != api.OK || len(x) <= len(long) {
		t.Fatal(len(x), e)
	}
	if back, e := Unescape(x); back != long || e != api.OK {
		t.Fatal(len(back), e)
	}
	if n, e := Whole(long + "\xf0\x9f"); n != len(long) || e != api.OK {
		t.Fatal(n, e)
	}
}
