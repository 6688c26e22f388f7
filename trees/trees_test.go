package trees

import (
	"fmt"
	"math"
	"math/rand"
	"reflect"
	"regexp"
	"strings"
	"testing"

	"tidewater/api"
	"tidewater/tags"
)

var blankForm = regexp.MustCompile(`\A[ \t\n\r]*\z`)

// openOf answers the places of the beginnings that have no end yet.
func openOf(l []tags.Token) []int {
	var open []int
	for i, t := range l {
		switch t.Kind {
		case 1:
			open = append(open, i)
		case 2:
			open = open[:len(open)-1]
		}
	}
	return open
}

// parse reads one element out of its tokens, from its beginning on, and answers what stands behind it, too.
func parse(l []tags.Token) (api.Elem, []tags.Token) {
	e := api.Elem{Name: l[0].Name, Attrs: l[0].Attrs}
	for l = l[1:]; l[0].Kind != 2; {
		if l[0].Kind == 3 {
			e.Text, l = e.Text+l[0].Text, l[1:]
			continue
		}
		var kid api.Elem
		kid, l = parse(l)
		e.Kids = append(e.Kids, kid)
	}
	return e, l[1:]
}

// kidsOf counts the kids of the element that l begins with, which isn't whole.
func kidsOf(l []tags.Token) int {
	kids, depth := 0, 0
	for _, t := range l[1:] {
		switch {
		case t.Kind == 1:
			depth++
			if depth == 1 {
				kids++
			}
		case t.Kind == 2:
			depth--
		}
	}
	return kids
}

// wantFault is the chapter's row of errors, told of all the tokens ahead of t.
func wantFault(ahead []tags.Token, t tags.Token) api.Errno {
	open := openOf(ahead)
	n := len(open)
	switch {
	case len(ahead) == 0 && t.Kind != 1, len(ahead) > 0 && n == 0, t.Kind != 1 && t.Kind != 2 && t.Kind != 3:
		return api.ErrForm
	case n >= 2 && len(ahead)-open[1]+1 >= 65:
		return api.ErrLong
	case t.Kind == 2 && ahead[open[n-1]].Name != t.Name, t.Kind == 3 && n == 1 && !blankForm.MatchString(t.Text):
		return api.ErrForm
	case t.Kind == 1 && n == 5:
		return api.ErrDeep
	case t.Kind == 1 && n >= 2 && kidsOf(ahead[open[n-1]:]) == 16:
		return api.ErrLong
	}
	return api.OK
}

func wantEvent(ahead []tags.Token, t tags.Token) (Event, bool) {
	open := openOf(ahead)
	switch {
	case len(ahead) == 0:
		return Event{Kind: 1, Elem: api.Elem{Name: t.Name, Attrs: t.Attrs}}, true
	case t.Kind == 2 && len(open) == 1:
		return Event{Kind: 3}, true
	case t.Kind == 2 && len(open) == 2:
		e, _ := parse(append(append([]tags.Token{}, ahead[open[1]:]...), t))
		return Event{Kind: 2, Elem: e}, true
	}
	return Event{}, false
}

// plain answers the element with no empty list but nil, since both are alike.
func plain(e api.Elem) api.Elem {
	if len(e.Attrs) == 0 {
		e.Attrs = nil
	}
	var kids []api.Elem
	for _, kid := range e.Kids {
		kids = append(kids, plain(kid))
	}
	e.Kids = kids
	return e
}

func alike(a, b api.Elem) bool { return reflect.DeepEqual(plain(a), plain(b)) }

// check gives all tokens to a builder, and holds each answer against the chapter's. It answers the first error.
func check(t *testing.T, l []tags.Token) api.Errno {
	t.Helper()
	b := New()
	failed := api.OK
	for i, token := range l {
		var want Event
		var whole bool
		if failed == api.OK {
			failed = wantFault(l[:i], token)
		}
		depth := 0
		if failed == api.OK {
			want, whole = wantEvent(l[:i], token)
			depth = len(openOf(l[:i+1]))
		}
		got, ok, e := b.Take(token)
		if e != failed || ok != whole || got.Kind != want.Kind || !alike(got.Elem, want.Elem) || b.Depth() != depth {
			t.Fatalf("%v at %d: %v %v %d depth %d, want %v %v %d depth %d", l, i, got, ok, e, b.Depth(), want, whole, failed, depth)
		}
	}
	return failed
}

func begin(name string, attrs ...string) tags.Token {
	return tags.Token{Kind: tags.Begin, Name: name, Attrs: pairs(attrs...)}
}

func end(name string) tags.Token { return tags.Token{Kind: tags.End, Name: name} }
func text(s string) tags.Token   { return tags.Token{Kind: tags.Text, Text: s} }

func pairs(attrs ...string) []api.Attr {
	var l []api.Attr
	for i := 0; i < len(attrs); i += 2 {
		l = append(l, api.Attr{Name: attrs[i], Value: attrs[i+1]})
	}
	return l
}

// tokensOf reads a stream's text, which may be no stream, but is of tags and texts.
func tokensOf(t *testing.T, s string) []tags.Token {
	t.Helper()
	l, e := tags.New().Feed(s)
	if e != api.OK {
		t.Fatalf("%.60q: %d", s, e)
	}
	return l
}

func TestKinds(t *testing.T) {
	if Head != 1 || Item != 2 || Foot != 3 {
		t.Error(Head, Item, Foot)
	}
}

func TestTakeOfStreams(t *testing.T) {
	for s, want := range map[string][]Event{
		"":                        nil,
		"<s>":                     {{Kind: Head, Elem: api.Elem{Name: "s"}}},
		"<s a='1' b='&lt;'>":      {{Kind: Head, Elem: api.Elem{Name: "s", Attrs: pairs("a", "1", "b", "<")}}},
		"<s/>":                    {{Kind: Head, Elem: api.Elem{Name: "s"}}, {Kind: Foot}},
		"<s>\t\n\r <":             {{Kind: Head, Elem: api.Elem{Name: "s"}}},
		"<s><a></a></s>":          {{Kind: Head, Elem: api.Elem{Name: "s"}}, {Kind: Item, Elem: api.Elem{Name: "a"}}, {Kind: Foot}},
		"<s> <a/> <s/> </s>":      {{Kind: Head, Elem: api.Elem{Name: "s"}}, {Kind: Item, Elem: api.Elem{Name: "a"}}, {Kind: Item, Elem: api.Elem{Name: "s"}}, {Kind: Foot}},
		"<s><a>x&amp;<b/>y</a>":   {{Kind: Head, Elem: api.Elem{Name: "s"}}, {Kind: Item, Elem: api.Elem{Name: "a", Text: "x&y", Kids: []api.Elem{{Name: "b"}}}}},
		"<s><a> <b c='1'/>\n</a>": {{Kind: Head, Elem: api.Elem{Name: "s"}}, {Kind: Item, Elem: api.Elem{Name: "a", Text: " \n", Kids: []api.Elem{{Name: "b", Attrs: pairs("c", "1")}}}}},
		"<s><a>1<b>2<c>3</c>4</b>5<b>6</b>7</a>": {{Kind: Head, Elem: api.Elem{Name: "s"}}, {Kind: Item, Elem: api.Elem{Name: "a", Text: "157", Kids: []api.Elem{
			{Name: "b", Text: "24", Kids: []api.Elem{{Name: "c", Text: "3"}}}, {Name: "b", Text: "6"}}}}},
		"<s><a><a><a><a></a></a></a></a>": {{Kind: Head, Elem: api.Elem{Name: "s"}}, {Kind: Item, Elem: api.Elem{Name: "a", Kids: []api.Elem{{Name: "a", Kids: []api.Elem{{Name: "a", Kids: []api.Elem{{Name: "a"}}}}}}}}},
	} {
		l := tokensOf(t, s)
		b := New()
		var got []Event
		for _, token := range l {
			v, ok, e := b.Take(token)
			if e != api.OK {
				t.Errorf("%q: %d", s, e)
			}
			if ok {
				got = append(got, v)
			}
		}
		if len(got) != len(want) {
			t.Errorf("%q: %v, want %v", s, got, want)
			continue
		}
		for i := range got {
			if got[i].Kind != want[i].Kind || !alike(got[i].Elem, want[i].Elem) {
				t.Errorf("%q: %v, want %v", s, got[i], want[i])
			}
		}
		check(t, l)
	}
}

func TestTakeRefuses(t *testing.T) {
	for _, x := range []struct {
		s    string
		at   int // which token
		want api.Errno
	}{
		{"x<s>", 0, api.ErrForm}, // the first token is no beginning
		{" <s>", 0, api.ErrForm},
		{"</s>", 0, api.ErrForm},
		{"<s></s><s>", 2, api.ErrForm}, // behind the foot
		{"<s></s></s>", 2, api.ErrForm},
		{"<s></s> <a>", 2, api.ErrForm},
		{"<s></s>x<a>", 2, api.ErrForm},
		{"<s></a>", 1, api.ErrForm}, // an end that fits no beginning
		{"<s><a/></a>", 3, api.ErrForm},
		{"<s><a></b>", 2, api.ErrForm},
		{"<s><a></s>", 2, api.ErrForm},
		{"<s><a><b></a>", 3, api.ErrForm},
		{"<s><a>x</ab>", 3, api.ErrForm},
		{"<s><ab>x</a>", 3, api.ErrForm},
		{"<s>x<a>", 1, api.ErrForm}, // a text between items that isn't blank
		{"<s>\u00a0<a>", 1, api.ErrForm},
		{"<s>\u2028<a>", 1, api.ErrForm},
		{"<s> x <a>", 1, api.ErrForm},
		{"<s>&lt;<a>", 1, api.ErrForm},
		{"<s> <a/>\t.<", 4, api.ErrForm},
		{"<s><a/>x</s>", 3, api.ErrForm},
		{"<s><a><a><a><a><a>", 5, api.ErrDeep},
		{"<s><a><b/><c><d><e/><f><g>", 9, api.ErrDeep},
	} {
		l := tokensOf(t, x.s)
		if e := check(t, l); e != x.want {
			t.Errorf("%q: %d, want %d", x.s, e, x.want)
		}
		if e := check(t, l[:x.at]); e != api.OK {
			t.Errorf("%q: %d ahead of token %d", x.s, e, x.at)
		}
		if e := check(t, l[:x.at+1]); e != x.want {
			t.Errorf("%q: %d at token %d", x.s, e, x.at)
		}
	}
}

func TestTakeOfNoKind(t *testing.T) {
	ahead := []string{"", "<s>", "<s><a>", "<s><a><b>", "<s><a><a><a><a>", "<s><a/>", "<s></s>", "<s><a>" + strings.Repeat("<b/>", 16)}
	for _, s := range ahead {
		l := tokensOf(t, s)
		for _, kind := range []int{0, -1, 4, 5, math.MaxInt, math.MinInt} {
			if e := check(t, append(l[:len(l):len(l)], tags.Token{Kind: kind, Name: "a"})); e != api.ErrForm {
				t.Errorf("%q then %d: %d", s, kind, e)
			}
		}
	}
}

// itemOf answers a stream whose one item has that many tokens, without its last one, whose name is a.
func itemOf(n int) []tags.Token {
	l := []tags.Token{begin("s"), begin("a")}
	for range n - 2 {
		l = append(l, text("x"))
	}
	return l
}

func TestTokensOfAnItem(t *testing.T) {
	for _, n := range []int{2, 3, 63, 64} {
		l := append(itemOf(n), end("a"))
		if e := check(t, l); e != api.OK {
			t.Errorf("%d tokens: %d", n, e)
		}
		// Those of other items, and texts between them, don't count.
		more := append(append(append(l, text(" "), text("\n")), l[1:]...), end("s"))
		if e := check(t, more); e != api.OK {
			t.Errorf("twice %d tokens: %d", n, e)
		}
	}
	last := map[string]tags.Token{"end": end("a"), "wrong end": end("b"), "text": text("x"), "empty text": text(""), "beginning": begin("b")}
	for name, token := range last {
		if e := check(t, append(itemOf(65), token, begin("c"))); e != api.ErrLong {
			t.Errorf("65th token, %s: %d", name, e)
		}
	}
	if e := check(t, append(itemOf(65), tags.Token{Kind: 4})); e != api.ErrForm {
		t.Errorf("65th token of no kind: %d", e)
	}
	// A beginning that goes too deep, as the 64th token and as the 65th.
	deep := []tags.Token{begin("s"), begin("a"), begin("a"), begin("a"), begin("a")}
	for len(deep) < 64 {
		deep = append(deep, text("x"))
	}
	if e := check(t, append(deep[:64:64], begin("a"))); e != api.ErrDeep {
		t.Errorf("64th token, too deep: %d", e)
	}
	if e := check(t, append(deep[:64:64], text("x"), begin("a"))); e != api.ErrLong {
		t.Errorf("65th token, too deep: %d", e)
	}
	if e := check(t, append(itemOf(64), end("b"))); e != api.ErrForm {
		t.Errorf("64th token, an end that doesn't fit: %d", e)
	}
}

func TestTextsBetweenItems(t *testing.T) {
	for _, s := range []string{"", " ", "\t", "\n", "\r", " \t\r\n \n", strings.Repeat(" ", 5000)} {
		if e := check(t, []tags.Token{begin("s"), text(s), text(s), begin("a"), end("a"), text(s), end("s")}); e != api.OK {
			t.Errorf("%.20q: %d", s, e)
		}
	}
	for r := range 0x3100 {
		s := string(rune(r))
		want := api.ErrForm
		if r == 32 || r == 9 || r == 10 || r == 13 {
			want = api.OK
		}
		for _, between := range []string{s, " " + s, s + " ", " " + s + "\n"} {
			b := New()
			b.Take(begin("s"))
			if _, ok, e := b.Take(text(between)); ok || e != want {
				t.Fatalf("%q: %v %d, want %d", between, ok, e, want)
			}
		}
	}
	for _, s := range []string{"\xff", "\x80", " \x00", "\xc2", " \xc2\xa0"} {
		if e := check(t, []tags.Token{begin("s"), text(s)}); e != api.ErrForm {
			t.Errorf("%q: %d", s, e)
		}
	}
}

func TestKidsOfAnElement(t *testing.T) {
	for _, around := range []string{"<s><a>", "<s><a/><a>", "<s><a><b>", "<s><a><b><c>", "<s><a><k/><b>"} {
		full := around + strings.Repeat("<k/>", 16)
		for s, want := range map[string]api.Errno{
			full:             api.OK,
			full + "x<":      api.OK,
			full + "<k>":     api.ErrLong, // told at its beginning
			full + "<k/>":    api.ErrLong,
			full + "x<k>":    api.ErrLong,
			full + "</x>":    api.ErrForm,
			full + "</c><k>": wantBehind(around),
		} {
			if e := check(t, tokensOf(t, s)); e != want {
				t.Errorf("%q: %d, want %d", s, e, want)
			}
		}
	}
	// The stream's items are no kids.
	if e := check(t, tokensOf(t, "<s>"+strings.Repeat("<a/>", 100)+"</s>")); e != api.OK {
		t.Error(e)
	}
	// Nor are those of its kids kids of an element.
	if e := check(t, tokensOf(t, "<s><a>"+strings.Repeat("<b><k/></b>", 15)+"<b/></a>")); e != api.OK {
		t.Error(e)
	}
	if e := check(t, tokensOf(t, "<s><a><b>"+strings.Repeat("<k/>", 10)+"</b><b>"+strings.Repeat("<k/>", 16)+"</b></a></s>")); e != api.OK {
		t.Error(e)
	}
}

// wantBehind answers what comes of an end of c with a beginning behind it.
func wantBehind(around string) api.Errno {
	if strings.HasSuffix(around, "<c>") {
		return api.OK
	}
	return api.ErrForm
}

func TestDepth(t *testing.T) {
	b := New()
	if b.Depth() != 0 {
		t.Error("new", b.Depth())
	}
	for i, x := range []struct {
		token tags.Token
		depth int
	}{
		{begin("s"), 1}, {text(" "), 1}, {begin("a"), 2}, {text("x"), 2}, {begin("b"), 3}, {begin("c"), 4}, {begin("d"), 5}, {text(" "), 5}, {end("d"), 4},
		{end("c"), 3}, {begin("c"), 4}, {end("c"), 3}, {end("b"), 2}, {end("a"), 1}, {begin("s"), 2}, {end("s"), 1}, {end("s"), 0},
	} {
		if _, _, e := b.Take(x.token); e != api.OK || b.Depth() != x.depth {
			t.Fatalf("token %d: %d depth %d, want %d", i, e, b.Depth(), x.depth)
		}
	}
	if _, _, e := b.Take(begin("s")); e != api.ErrForm || b.Depth() != 0 {
		t.Error("behind the foot", e, b.Depth())
	}
}

func TestTakeBehindAnError(t *testing.T) {
	for s, want := range map[string]api.Errno{
		"x<":                    api.ErrForm,
		"<s>x<":                 api.ErrForm,
		"<s></s><s>":            api.ErrForm,
		"<s><a></b>":            api.ErrForm,
		"<s><a><b></s>":         api.ErrForm,
		"<s><a><a><a><a><a>":    api.ErrDeep,
		"<s><a>" + repeatKids(): api.ErrLong,
	} {
		b := New()
		for _, token := range tokensOf(t, s) {
			b.Take(token)
		}
		for _, token := range []tags.Token{begin("s"), begin("a"), end("a"), end("s"), text(" "), text("x"), {}, {Kind: 9}, begin("a")} {
			if v, ok, e := b.Take(token); e != want || ok || !reflect.DeepEqual(v, Event{}) || b.Depth() != 0 {
				t.Errorf("%.30q then %v: %v %v %d depth %d, want %d", s, token, v, ok, e, b.Depth(), want)
			}
		}
	}
}

func repeatKids() string { return strings.Repeat("<k/>", 17) }

func TestNilBuilder(t *testing.T) {
	var b *Builder
	for _, token := range []tags.Token{{}, begin("s"), end("s"), text("x"), {Kind: 7}} {
		if v, ok, e := b.Take(token); e != api.ErrArg || ok || !reflect.DeepEqual(v, Event{}) {
			t.Error(v, ok, e)
		}
		if b.Depth() != 0 {
			t.Error(b.Depth())
		}
	}
}

// No error is named for a token's names, attributes and signs, which the layer below has looked at, nor for what its kind has no use for.
func TestTakeOfTokensThatNoStreamHas(t *testing.T) {
	l := []tags.Token{begin("", "A", "\x00", "A", "\xff"), begin("é", "", "", "", "", "", "", "", "", "", "", "", "", "", ""), text("\x00\xff"), end("é"), end("")}
	if e := check(t, l); e != api.OK {
		t.Error(e)
	}
	b := New()
	b.Take(tags.Token{Kind: tags.Begin, Name: "s", Text: "x"})
	b.Take(tags.Token{Kind: tags.Begin, Name: "a", Text: "x"})
	b.Take(tags.Token{Kind: tags.Text, Name: "b", Attrs: pairs("c", "d"), Text: "y"})
	v, ok, e := b.Take(tags.Token{Kind: tags.End, Name: "a", Attrs: pairs("c", "d"), Text: "z"})
	if !ok || e != api.OK || !alike(v.Elem, api.Elem{Name: "a", Text: "y"}) {
		t.Error(v, ok, e)
	}
}

func TestAllShortRowsOfTokens(t *testing.T) {
	from := []tags.Token{begin("a"), begin("b", "c", "1"), end("a"), end("b"), text(" "), text("x"), {}}
	var grow func(l []tags.Token)
	grow = func(l []tags.Token) {
		check(t, l)
		if len(l) == 6 {
			return
		}
		for _, token := range from {
			grow(append(l[:len(l):len(l)], token))
		}
	}
	grow(nil)
	grow([]tags.Token{begin("s"), begin("a"), begin("b")})
}

// drawRow draws tokens, most of which fit those ahead of them.
func drawRow(from *rand.Rand) []tags.Token {
	var l []tags.Token
	wrong := from.Intn(2) * 60
	for range from.Intn(150) {
		open := openOf(l)
		names := []string{"a", "b"}
		name := names[from.Intn(2)]
		switch k := from.Intn(8); {
		case wrong > 0 && from.Intn(wrong) == 0:
			l = append(l, tags.Token{Kind: from.Intn(6) - 1, Name: name, Text: "x"})
		case len(open) == 0 && len(l) > 0:
			return append(l, begin("a"))
		case k == 0 && len(open) == 1:
			l = append(l, text(" \n"[:1+from.Intn(2)]))
		case k == 0 && len(open) > 1:
			l = append(l, text(name))
		case len(open) == 0, k < 4 && len(open) < 5, len(open) == 1:
			l = append(l, begin(name, "c", name))
		default:
			l = append(l, end(l[open[len(open)-1]].Name))
		}
		if wantFault(l[:len(l)-1], l[len(l)-1]) != api.OK {
			return append(l, begin("a"), text(" "))
		}
	}
	return l
}

func TestManyRowsOfTokens(t *testing.T) {
	from := rand.New(rand.NewSource(3))
	met := map[api.Errno]int{}
	for range 20000 {
		met[check(t, drawRow(from))]++
	}
	for _, e := range []api.Errno{api.OK, api.ErrForm, api.ErrLong} {
		if met[e] == 0 {
			t.Errorf("%d was never met: %v", e, met)
		}
	}
}

func TestEventsAreNewMemory(t *testing.T) {
	b := New()
	attrs := pairs("x", "1", "y", "2")
	give := func(token tags.Token) Event {
		v, _, e := b.Take(token)
		if e != api.OK {
			t.Fatal(e)
		}
		return v
	}
	head := give(tags.Token{Kind: tags.Begin, Name: "s", Attrs: attrs})
	give(tags.Token{Kind: tags.Begin, Name: "a", Attrs: attrs})
	give(tags.Token{Kind: tags.Begin, Name: "b", Attrs: attrs})
	attrs[0].Value = "changed"
	head.Elem.Attrs[1].Value = "changed"
	give(end("b"))
	give(begin("c"))
	give(end("c"))
	first := give(end("a"))
	want := api.Elem{Name: "a", Attrs: pairs("x", "1", "y", "2"), Kids: []api.Elem{{Name: "b", Attrs: pairs("x", "1", "y", "2")}, {Name: "c"}}}
	if !alike(first.Elem, want) || !reflect.DeepEqual(head.Elem.Attrs, pairs("x", "1", "y", "changed")) {
		t.Error(head, first)
	}
	first.Elem.Attrs[0].Value = "changed"
	if first.Elem.Kids[0].Attrs[0].Value != "1" {
		t.Error("an element and its kid share their attributes")
	}
	first.Elem.Kids[0].Name = "changed"
	_ = append(first.Elem.Kids, api.Elem{Name: "more"})
	give(begin("a"))
	give(begin("b"))
	give(end("b"))
	second := give(end("a"))
	if !alike(second.Elem, api.Elem{Name: "a", Kids: []api.Elem{{Name: "b"}}}) || first.Elem.Kids[0].Name != "changed" || first.Elem.Kids[1].Name != "c" {
		t.Error(first, second)
	}
}

func TestTakeLeavesItsToken(t *testing.T) {
	token := begin("a", "b", "1", "c", "2")
	kept := fmt.Sprint(token)
	b := New()
	b.Take(begin("s"))
	b.Take(token)
	b.Take(begin("d"))
	b.Take(end("d"))
	b.Take(end("a"))
	if fmt.Sprint(token) != kept {
		t.Error(token)
	}
}

func TestBuildersAreApart(t *testing.T) {
	a, b := New(), New()
	a.Take(begin("s"))
	a.Take(begin("a"))
	b.Take(begin("s"))
	b.Take(text("x"))
	if _, _, e := b.Take(end("s")); e != api.ErrForm || b.Depth() != 0 {
		t.Error(e, b.Depth())
	}
	if v, ok, e := a.Take(end("a")); !ok || e != api.OK || v.Elem.Name != "a" || a.Depth() != 1 {
		t.Error(v, ok, e, a.Depth())
	}
}
