package tags

import (
	"fmt"
	"math/rand"
	"reflect"
	"regexp"
	"strings"
	"testing"
	"unicode/utf8"

	"tidewater/api"
)

const nameForm = `[a-z][a-z0-9:-]{0,15}`

var (
	endForm   = regexp.MustCompile(`\A/(` + nameForm + `)[ \t\n\r]*\z`)
	beginForm = regexp.MustCompile(`\A(` + nameForm + `)((?:[ \t\n\r]+` + nameForm + `=(?:"[^"]*"|'[^']*'))*)[ \t\n\r]*(/?)\z`)
	attrForm  = regexp.MustCompile(`[ \t\n\r]+(` + nameForm + `)=(?:"([^"]*)"|'([^']*)')`)
	valueForm = regexp.MustCompile(`\A(?:[^&<]|&(?:amp|lt|gt|quot|apos);)*\z`)
	signsBack = strings.NewReplacer("&amp;", "&", "&lt;", "<", "&gt;", ">", "&quot;", "\"", "&apos;", "'")
)

func signsMayBe(s string) bool {
	for _, r := range s {
		if r < 32 && r != 9 && r != 10 && r != 13 || r == 65534 || r == 65535 {
			return false
		}
	}
	return utf8.ValidString(s)
}

func wantText(s string) (string, api.Errno) {
	switch {
	case !signsMayBe(s):
		return "", api.ErrSign
	case !valueForm.MatchString(s):
		return "", api.ErrForm
	}
	return signsBack.Replace(s), api.OK
}

// wantTag is the chapter's form of a tag, told by patterns, not by reading on.
func wantTag(s string) ([]Token, api.Errno) {
	if !signsMayBe(s) {
		return nil, api.ErrSign
	}
	if m := endForm.FindStringSubmatch(s); m != nil {
		return []Token{{Kind: 2, Name: m[1]}}, api.OK
	}
	m := beginForm.FindStringSubmatch(s)
	if m == nil {
		return nil, api.ErrForm
	}
	begin := Token{Kind: 1, Name: m[1]}
	names := map[string]bool{}
	for _, a := range attrForm.FindAllStringSubmatch(m[2], -1) {
		value, e := wantText(a[2] + a[3])
		if e != api.OK || names[a[1]] {
			return nil, api.ErrForm
		}
		names[a[1]] = true
		begin.Attrs = append(begin.Attrs, api.Attr{Name: a[1], Value: value})
	}
	if len(names) > 6 {
		return nil, api.ErrForm
	}
	if m[3] == "/" {
		return []Token{begin, {Kind: 2, Name: m[1]}}, api.OK
	}
	return []Token{begin}, api.OK
}

// want answers what the chapter asks of all of s, cutting it at < and > instead of going through it byte by byte.
func want(s string) (tokens []Token, held int, e api.Errno) {
	for {
		text, behind, more := strings.Cut(s, "<")
		if len(text) > 512 {
			return tokens, 0, api.ErrLong
		}
		if !more {
			return tokens, len(text), api.OK
		}
		if text != "" {
			plain, e := wantText(text)
			if e != api.OK {
				return tokens, 0, e
			}
			tokens = append(tokens, Token{Kind: 3, Text: plain})
		}
		at := strings.IndexAny(behind, "<>")
		switch {
		case at > 512, at < 0 && len(behind) > 512:
			return tokens, 0, api.ErrLong
		case at < 0:
			return tokens, len(behind), api.OK
		case behind[at] == '<':
			return tokens, 0, api.ErrForm
		}
		whole, e := wantTag(behind[:at])
		if e != api.OK {
			return tokens, 0, e
		}
		tokens = append(tokens, whole...)
		s = behind[at+1:]
	}
}

func same(a, b []Token) bool {
	if len(a) != len(b) {
		return false
	}
	for i := range a {
		if fmt.Sprintf("%#v", plain(a[i])) != fmt.Sprintf("%#v", plain(b[i])) {
			return false
		}
	}
	return true
}

// plain answers the token with no list of attributes as nil, since both are alike.
func plain(t Token) Token {
	if len(t.Attrs) == 0 {
		t.Attrs = nil
	}
	return t
}

func check(t *testing.T, s string) {
	t.Helper()
	tokens, held, e := want(s)
	r := New()
	got, f := r.Feed(s)
	if f != e || r.Held() != held || len(got) != len(tokens) || len(got) > 0 && !same(got, tokens) {
		t.Fatalf("%.60q: %v %d held %d, want %v %d held %d", s, got, f, r.Held(), tokens, e, held)
	}
}

// checkPieces feeds s piece by piece, and holds what has come by then against all that was fed by then.
func checkPieces(t *testing.T, s string, pieces ...string) {
	t.Helper()
	r := New()
	var got []Token
	fed := ""
	failed := api.OK
	for _, p := range pieces {
		l, e := r.Feed(p)
		if failed != api.OK && (len(l) > 0 || e != failed) {
			t.Fatalf("%.60q in %.60q behind %d: %v %d", s, pieces, failed, l, e)
		}
		got, fed, failed = append(got, l...), fed+p, e
		tokens, held, f := want(fed)
		if e != f || r.Held() != held || !same(got, tokens) {
			t.Fatalf("%.60q in %.60q, at %d: %v %d held %d, want %v %d held %d", s, pieces, len(fed), got, e, r.Held(), tokens, f, held)
		}
	}
}

func checkAllCuts(t *testing.T, s string) {
	t.Helper()
	checkPieces(t, s, s)
	checkPieces(t, s, strings.SplitAfter(s, "")...)
	var one []string
	for i := range len(s) {
		one = append(one, s[i:i+1])
	}
	checkPieces(t, s, one...)
	for i := range len(s) + 1 {
		checkPieces(t, s, s[:i], s[i:])
		checkPieces(t, s, s[:i], "", s[i:], "", "<a>")
	}
}

func forAll(most int, from string, f func(s string)) {
	f("")
	if most == 0 {
		return
	}
	for i := range len(from) {
		forAll(most-1, from, func(s string) { f(from[i:i+1] + s) })
	}
}

func repeat(n int) string { return strings.Repeat("x", n) }

func begin(name string, attrs ...string) Token {
	t := Token{Kind: Begin, Name: name}
	for i := 0; i < len(attrs); i += 2 {
		t.Attrs = append(t.Attrs, api.Attr{Name: attrs[i], Value: attrs[i+1]})
	}
	return t
}

func end(name string) Token   { return Token{Kind: End, Name: name} }
func text(plain string) Token { return Token{Kind: Text, Text: plain} }

func TestKinds(t *testing.T) {
	if Begin != 1 || End != 2 || Text != 3 {
		t.Error(Begin, End, Text)
	}
}

func TestFeedTokens(t *testing.T) {
	for s, want := range map[string][]Token{
		"":                                     nil,
		"a":                                    nil,
		"<":                                    nil,
		"<a":                                   nil,
		"<a>":                                  {begin("a")},
		"<a/>":                                 {begin("a"), end("a")},
		"</a>":                                 {end("a")},
		"</a \t\r\n>":                          {end("a")},
		"<a >":                                 {begin("a")},
		"<a \t\n\r/>":                          {begin("a"), end("a")},
		"<a b='1'/>":                           {begin("a", "b", "1"), end("a")},
		"<a b=\"1\" >":                         {begin("a", "b", "1")},
		"<a\tb='1'\nc='2'\rd=''>":              {begin("a", "b", "1", "c", "2", "d", "")},
		"<a  \t b='1' \r\n c='2'>":             {begin("a", "b", "1", "c", "2")},
		"<a b='\"' c=\"'\">":                   {begin("a", "b", "\"", "c", "'")},
		"<a b='=' c='d=e'>":                    {begin("a", "b", "=", "c", "d=e")},
		"<a b='/'>":                            {begin("a", "b", "/")},
		"<a b=' /'/>":                          {begin("a", "b", " /"), end("a")},
		"<a b='é€😀\t'>":                        {begin("a", "b", "é€😀\t")},
		"<a b='&amp;lt;&apos;&quot;&gt;&lt;'>": {begin("a", "b", "&lt;'\"><")},
		"<a:b-1 c:d-2='x'>":                    {begin("a:b-1", "c:d-2", "x")},
		"<a a='1'>":                            {begin("a", "a", "1")},
		"<a b='1' c='1'>":                      {begin("a", "b", "1", "c", "1")},
		"<a a='' b='' c='' d='' e='' f=''>":    {begin("a", "a", "", "b", "", "c", "", "d", "", "e", "", "f", "")},
		"<abcdefghijklmnop b='1'>":             {begin("abcdefghijklmnop", "b", "1")},
		"a<":                                   {text("a")},
		" <":                                   {text(" ")},
		"a>b='\"/<":                            {text("a>b='\"/")},
		"a &amp; b<":                           {text("a & b")},
		"&lt;a&gt;<":                           {text("<a>")},
		"é😀<a>\r\n\t</a>":                      {text("é😀"), begin("a"), text("\r\n\t"), end("a")},
		"<a><b/>x</a>y<c>":                     {begin("a"), begin("b"), end("b"), text("x"), end("a"), text("y"), begin("c")},
		"</a></b>":                             {end("a"), end("b")}, // what fits what is told by the layer above
	} {
		got, e := New().Feed(s)
		if e != api.OK || !same(got, want) {
			t.Errorf("%q: %v %d, want %v", s, got, e, want)
		}
		checkAllCuts(t, s)
	}
}

func TestFeedRefusesTags(t *testing.T) {
	for _, s := range []string{
		"<>", "< >", "</>", "<//>", "</ a>", "< a>", "<\ta>", "< /a>", "</a/>", "</a /a>", "</a b>", "</a b='1'>",
		"<a/ >", "<a //>", "<a//>", "<a /b>", "<a/b>", "<a/b='1'>", "<a b='1'/ >", "<a b='1'//>",
		"<a b>", "<a b=>", "<a b=1>", "<a b='1>", "<a b=\"1>", "<a b='1\">", "<a b=\"1'>", "<a b=''1'>", "<a b='1''>",
		"<a b ='1'>", "<a b= '1'>", "<a b\t=\t'1'>", "<a ='1'>", "<a='1'>", "<a '1'>", "<a b=='1'>", "<a b='1'=''>",
		"<a b='1'c='2'>", "<a b='1'\"\">", "<a b='1'x>", "<a b='1' x>", "<a b='1' '>",
		"<a b='1' b='1'>", "<a b='1' c='' b=\"2\">", "<a f='' b='' c='' d='' e='' f=''>",
		"<a a='' b='' c='' d='' e='' f='' g=''>", "<a a='' b='' c='' d='' e='' f='' g>",
		"<A>", "<1>", "<-a>", "<:a>", "<a_>", "<é>", "<!>", "<?a?>", "<!-->", "</A>", "</1>", "<a B='1'>", "<a 1='1'>", "<a b_='1'>", "<a é='1'>",
		"<abcdefghijklmnopq>", "</abcdefghijklmnopq>", "<a abcdefghijklmnopq='1'>",
		"<a b='&'>", "<a b='&x;'>", "<a b='&lt'>", "<a b='&AMP;'>", "<a b='&#60;'>", "<&lt;>", "<a&lt;>",
		"<a\u00a0b='1'>", "<a\u2028>",
		"<a<", "<<", "</<", "<a b='<", "<a b='1' <", "<\x00<", "<\xff<", "<a b='\xc3<", "<a b='>'>",
	} {
		r := New()
		if got, e := r.Feed(s); e != api.ErrForm || len(got) != 0 || r.Held() != 0 {
			t.Errorf("%q: %v %d", s, got, e)
		}
		checkAllCuts(t, s)
	}
	for _, s := range []string{
		"<\x00>", "<a\x01>", "<a\x1f>", "<a\x0bb='1'>", "</a\x0c>", "</a\xc3>", "<a b='\x00'>", "<a b='\xc3'>", "<a b='\xe2\x82'>", "<a b='\xff'/>", "<a b='\xef\xbf\xbe'>", "<a b='\xed\xa0\x80'>", "<a b='\xc0\x80'>",
		"< \x00>", "<a b='&x;' c='\x00'>", "<a b b='\x08'>", "<a a='' b='' c='' d='' e='' f='' g='\x00'>", // ErrSign is named first
	} {
		r := New()
		if got, e := r.Feed(s); e != api.ErrSign || len(got) != 0 || r.Held() != 0 {
			t.Errorf("%q: %v %d", s, got, e)
		}
		checkAllCuts(t, s)
	}
}

func TestFeedRefusesTexts(t *testing.T) {
	for s, want := range map[string]api.Errno{
		"\x00<":          api.ErrSign,
		"\x01<":          api.ErrSign,
		"a\x1f<":         api.ErrSign,
		"\xc3<":          api.ErrSign,
		"a\xe2\x82<":     api.ErrSign,
		"\xff<":          api.ErrSign,
		"\xef\xbf\xbf<":  api.ErrSign,
		"&x;\x00<":       api.ErrSign,
		"&x;<":           api.ErrForm,
		"&<":             api.ErrForm,
		"&amp<":          api.ErrForm,
		"a&b<":           api.ErrForm,
		"&lt;&lt &amp;<": api.ErrForm,
	} {
		r := New()
		if got, e := r.Feed(s); e != want || len(got) != 0 || r.Held() != 0 {
			t.Errorf("%q: %v %d, want %d", s, got, e, want)
		}
		checkAllCuts(t, s)
		// What is wrong with a text is told where it ends, not ahead of that.
		r = New()
		if _, e := r.Feed(s[:len(s)-1]); e != api.OK || r.Held() != len(s)-1 {
			t.Errorf("%q: %d ahead of its end, held %d", s, e, r.Held())
		}
	}
}

func TestFeedTextsOfMostBytes(t *testing.T) {
	for _, x := range []struct {
		s    string
		want api.Errno
		held int
	}{
		{repeat(512), api.OK, 512},
		{repeat(513), api.ErrLong, 0},
		{repeat(512) + ">", api.ErrLong, 0},
		{repeat(512) + "<", api.OK, 0},
		{repeat(512) + "<a>" + repeat(512) + "<", api.OK, 0},
		{"<a>" + repeat(513), api.ErrLong, 0},
		{strings.Repeat("é", 256) + "<", api.OK, 0},
		{strings.Repeat("é", 257) + "<", api.ErrLong, 0},
		{strings.Repeat("&amp;", 102) + "xx<", api.OK, 0}, // bytes, not what they stand for
		{strings.Repeat("&amp;", 102) + "xxx<", api.ErrLong, 0},
		{strings.Repeat("\x00", 512), api.OK, 512},
		{strings.Repeat("\x00", 513), api.ErrLong, 0},
		{strings.Repeat("\x00", 512) + "<", api.ErrSign, 0},
		{strings.Repeat("&", 512) + "<", api.ErrForm, 0},
		{strings.Repeat("&", 513) + "<", api.ErrLong, 0},
	} {
		r := New()
		if _, e := r.Feed(x.s); e != x.want || r.Held() != x.held {
			t.Errorf("%.20q of %d: %d held %d", x.s, len(x.s), e, r.Held())
		}
		checkAllCuts(t, x.s)
	}
}

func TestFeedTagsOfMostBytes(t *testing.T) {
	attr := func(n int) string { return "a b='" + repeat(n-6) + "'" }
	for _, x := range []struct {
		s    string
		want api.Errno
		held int
	}{
		{"<" + repeat(512), api.OK, 512},
		{"<" + repeat(513), api.ErrLong, 0},
		{"<" + repeat(512) + ">", api.ErrForm, 0}, // no name
		{"<" + attr(512), api.OK, 512},
		{"<" + attr(512) + ">", api.OK, 0},
		{"<" + attr(511) + "/>", api.OK, 0},
		{"<" + attr(513), api.ErrLong, 0},
		{"<" + attr(513) + ">", api.ErrLong, 0},
		{"<" + attr(512) + "/>", api.ErrLong, 0},
		{"<a" + strings.Repeat(" ", 511) + ">", api.OK, 0},
		{"<a" + strings.Repeat(" ", 512) + ">", api.ErrLong, 0},
		{"</a" + strings.Repeat("\n", 510) + ">", api.OK, 0},
		{"</a" + strings.Repeat("\n", 511) + ">", api.ErrLong, 0},
		{"<" + strings.Repeat("\x00", 512) + ">", api.ErrSign, 0},
		{"<" + strings.Repeat("\x00", 513) + ">", api.ErrLong, 0},
		{"<" + repeat(512) + "<", api.ErrForm, 0}, // a < is told whatever stands ahead of it
		{"<" + strings.Repeat("\x00", 512) + "<", api.ErrForm, 0},
		{"<" + repeat(513) + "<", api.ErrLong, 0},
	} {
		r := New()
		if _, e := r.Feed(x.s); e != x.want || r.Held() != x.held {
			t.Errorf("%.20q of %d: %d held %d", x.s, len(x.s), e, r.Held())
		}
		checkAllCuts(t, x.s)
	}
}

func TestHeld(t *testing.T) {
	r := New()
	if r.Held() != 0 {
		t.Error("new", r.Held())
	}
	for i, x := range []struct {
		piece string
		held  int
	}{
		{"", 0}, {"a", 1}, {"b", 2}, {"\xc3", 3}, {"\xa9", 4}, {"&am", 7}, {"", 7}, {"p;", 9},
		{"<", 0}, {"", 0}, {"a", 1}, {" b='", 5}, {"\xe2\x82", 7}, {"\xac'", 9}, {"/", 10}, {">", 0},
		{"x", 1}, {"<", 0}, {"/", 1}, {"a", 2}, {">>", 1}, {"<a><b", 1}, {">xyz", 3}, {"<a/><", 0}, {"a>", 0},
	} {
		if _, e := r.Feed(x.piece); e != api.OK || r.Held() != x.held {
			t.Fatalf("piece %d %q: %d held %d, want %d", i, x.piece, e, r.Held(), x.held)
		}
	}
	if l, e := r.Feed("abc<d<e"); len(l) != 1 || e != api.ErrForm || r.Held() != 0 {
		t.Error(l, e, r.Held())
	}
}

func TestTokensAheadOfAnError(t *testing.T) {
	want := []Token{begin("a", "b", "1"), text("x"), end("a")}
	for s, e := range map[string]api.Errno{"<": api.ErrForm, "a b>": api.ErrForm, "\x00>": api.ErrSign, repeat(513): api.ErrLong} {
		r := New()
		got, f := r.Feed("<a b='1'>x</a><" + s + "<c/>y<d>")
		if f != e || !same(got, want) {
			t.Errorf("%.20q: %v %d, want %d", s, got, f, e)
		}
	}
	if got, e := New().Feed("<a/>\x00<b/>"); e != api.ErrSign || !same(got, []Token{begin("a"), end("a")}) {
		t.Error(got, e)
	}
}

func TestFeedBehindAnError(t *testing.T) {
	for s, want := range map[string]api.Errno{"<a<": api.ErrForm, "<a b>": api.ErrForm, "&<": api.ErrForm, "\x00<": api.ErrSign, "<\x00>": api.ErrSign, repeat(513): api.ErrLong, "<" + repeat(600): api.ErrLong} {
		r := New()
		r.Feed("<a>")
		r.Feed(s)
		for _, more := range []string{"", ">", "<a>", "x<", "</a>", "\x00<", "<<", repeat(513)} {
			if l, e := r.Feed(more); len(l) != 0 || e != want || r.Held() != 0 {
				t.Errorf("%.20q then %.20q: %v %d held %d", s, more, l, e, r.Held())
			}
		}
	}
}

func TestNilReader(t *testing.T) {
	var r *Reader
	for _, s := range []string{"", "a", "<a>", "<a<"} {
		if l, e := r.Feed(s); len(l) != 0 || e != api.ErrArg {
			t.Error(l, e)
		}
		if r.Held() != 0 {
			t.Error(r.Held())
		}
	}
}

func TestAllShortStreams(t *testing.T) {
	forAll(6, "a<>/ &\x01", func(s string) { check(t, s) })
	forAll(5, "a<>/\xc3\xa9", func(s string) { checkAllCuts(t, s) })
}

func TestAllShortTags(t *testing.T) {
	forAll(7, "a =/'\"", func(s string) { check(t, "<"+s+">") })
	forAll(6, "b =/'\n", func(s string) { check(t, "<a"+s+">") })
	forAll(5, "b=' ;", func(s string) { check(t, "<a b='&lt"+s+">") })
}

func TestEveryByteAtEveryPlace(t *testing.T) {
	for _, s := range []string{"<a b='1' c=\"2\"/>", "</ab >", "x&lt;y<a>"} {
		for i := range len(s) {
			for b := range 256 {
				c := string([]byte{byte(b)})
				check(t, s[:i]+c+s[i:])
				check(t, s[:i]+c+s[i+1:])
			}
			check(t, s[:i]+s[i+1:])
		}
	}
}

// longParts are what streams are put together from, right parts and wrong ones.
var longParts = []string{
	"<a>", "</a>", "<a/>", "<a b='1'>", "<b c=\"&amp;\" d='é'/>", "</b >", "text", " ", "&lt;", "é€😀", "\n", "<presence/>", "</iq>",
	"<", ">", "&", "'", "\x00", "\xc3", "\xf0\x9f", "<a b='1' b='2'>", "a b='1'", "/", "=", "<a\t", "c='2'",
}

func TestManyStreamsInPieces(t *testing.T) {
	from := rand.New(rand.NewSource(2))
	for range 3000 {
		var b strings.Builder
		wrong := from.Intn(3) == 0
		for range from.Intn(30) {
			if wrong && from.Intn(6) == 0 {
				b.WriteString(longParts[from.Intn(len(longParts))])
			} else {
				b.WriteString(longParts[from.Intn(13)])
			}
			if from.Intn(40) == 0 {
				b.WriteString(repeat(from.Intn(600)))
			}
		}
		s := b.String()
		var pieces []string
		for rest := s; rest != ""; {
			n := min(1+from.Intn(9), len(rest))
			pieces, rest = append(pieces, rest[:n]), rest[n:]
		}
		checkPieces(t, s, s)
		checkPieces(t, s, pieces...)
	}
}

func TestAnswersAreNewMemory(t *testing.T) {
	r := New()
	first, _ := r.Feed("<a b='1' c='2'/><a b='1' c='2'>")
	kept := fmt.Sprint(first[2])
	first[0].Attrs[0].Value = "changed"
	_ = append(first[0].Attrs, api.Attr{Name: "more"})
	if fmt.Sprint(first[2]) != kept {
		t.Error(first)
	}
	second, e := r.Feed("<a b='1' c='2'>")
	if e != api.OK || !reflect.DeepEqual(second[0], begin("a", "b", "1", "c", "2")) || fmt.Sprint(first[2]) != kept {
		t.Error(second, e, first)
	}
}

func TestReadersAreApart(t *testing.T) {
	a, b := New(), New()
	a.Feed("<a b='1")
	b.Feed("x<")
	b.Feed("<")
	if l, e := a.Feed("'>"); e != api.OK || !same(l, []Token{begin("a", "b", "1")}) {
		t.Error(l, e)
	}
	if l, e := b.Feed("a>"); e != api.ErrForm || len(l) != 0 {
		t.Error(l, e)
	}
}
