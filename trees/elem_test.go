package trees

import (
	"fmt"
	"math/rand"
	"reflect"
	"strings"
	"testing"

	"tidewater/api"
	"tidewater/tags"
)

// chain answers an element that is so deep.
func chain(depth int) api.Elem {
	e := api.Elem{Name: "a"}
	for range depth - 1 {
		e = api.Elem{Name: "a", Kids: []api.Elem{e}}
	}
	return e
}

func kids(n int) []api.Elem {
	l := make([]api.Elem, n)
	for i := range l {
		l[i].Name = "k"
	}
	return l
}

// withinOf answers elements that have e in one of their parts, at each depth that leaves e's own place.
func withinOf(e api.Elem, most int) []api.Elem {
	l := []api.Elem{e}
	for range most - 1 {
		e = api.Elem{Name: "a", Attrs: pairs("b", "1"), Text: "x", Kids: []api.Elem{{Name: "c"}, e, {Name: "d"}}}
		l = append(l, e)
	}
	return l
}

const long16 = "abcdefghijklmno9"

func rightElems() []api.Elem {
	return []api.Elem{
		{Name: "a"},
		{Name: "iq", Attrs: []api.Attr{}, Kids: []api.Elem{}},
		{Name: long16},
		{Name: "a:b-1", Attrs: pairs("c:d-2", "")},
		{Name: "a", Attrs: pairs("a", "1")},
		{Name: "a", Attrs: pairs(long16, "1")},
		{Name: "a", Attrs: pairs("b", "1", "c", "1")},
		{Name: "a", Attrs: pairs("a", "", "b", "", "c", "", "d", "", "e", "", "f", "")},
		{Name: "a", Attrs: pairs("b", "<>&\"'é€😀\ufffd\t\r\n \U0010ffff")},
		{Name: "a", Text: " "},
		{Name: "a", Text: "<>&\"'é€😀\ufffd\t\r\n \U0010ffff"},
		{Name: "a", Text: "&amp;</a>"},
		{Name: "a", Text: "x", Kids: []api.Elem{{Name: "a"}, {Name: "a", Text: "y"}}},
		{Name: "a", Kids: kids(16)},
		chain(2), chain(3), chain(4),
	}
}

// wrongElems may not be, for one reason each.
func wrongElems() []api.Elem {
	l := []api.Elem{
		{},
		{Attrs: pairs("a", "1")},
		{Name: "A"}, {Name: "1"}, {Name: "-a"}, {Name: ":a"}, {Name: "a b"}, {Name: "a_"}, {Name: "é"}, {Name: "a\x00"}, {Name: "a\xff"}, {Name: "a>"}, {Name: "/a"},
		{Name: long16 + "p"},
		{Name: "a", Attrs: pairs("a", "", "b", "", "c", "", "d", "", "e", "", "f", "", "g", "")},
		{Name: "a", Attrs: pairs("b", "1", "b", "1")},
		{Name: "a", Attrs: pairs("b", "1", "c", "1", "b", "2")},
		{Name: "a", Attrs: pairs("a", "", "b", "", "c", "", "d", "", "e", "", "a", "")},
		{Name: "a", Attrs: pairs("", "1")},
		{Name: "a", Attrs: pairs("b", "1", "C", "1")},
		{Name: "a", Attrs: pairs("1", "1")},
		{Name: "a", Attrs: pairs("b ", "1")},
		{Name: "a", Attrs: pairs(long16+"p", "1")},
		{Name: "a", Kids: kids(17)},
		{Name: "a", Kids: kids(5000)},
		{Name: "a", Kids: make([]api.Elem, 1)},
	}
	for _, s := range []string{"\x00", "\x08", "a\x1f", "\x0b", "\xc3", "\xff", "\x80", "é\xe2\x82", "\xef\xbf\xbe", "\xef\xbf\xbf", "\xed\xa0\x80", "\xc0\x80", "\xf4\x90\x80\x80"} {
		l = append(l, api.Elem{Name: "a", Text: s}, api.Elem{Name: "a", Attrs: pairs("b", s)}, api.Elem{Name: "a", Attrs: pairs("b", "", "c", "x"+s)})
	}
	return l
}

// brief tells an element without its kids, which may have no end.
func brief(e api.Elem) string {
	return fmt.Sprintf("%.40q %.200q %.40q of %d kids", e.Name, e.Attrs, e.Text, len(e.Kids))
}

func checkRight(t *testing.T, e api.Elem, want bool) {
	t.Helper()
	if Right(e) != want {
		t.Errorf("right %s: %v", brief(e), !want)
	}
	s, f := Write(e)
	if !want && (s != "" || f != api.ErrForm) || want && (s == "" || f != api.OK) {
		t.Errorf("write %s: %.60q %d", brief(e), s, f)
	}
}

func TestRightOfElements(t *testing.T) {
	for _, e := range rightElems() {
		checkRight(t, e, true)
	}
	for _, e := range wrongElems() {
		for _, around := range withinOf(e, 3) {
			checkRight(t, around, false)
		}
	}
	for _, e := range []api.Elem{{Name: "a", Text: "x"}, {Name: "a", Attrs: pairs("b", "é")}} {
		for _, around := range withinOf(e, 4) {
			checkRight(t, around, true)
		}
		checkRight(t, withinOf(e, 5)[4], false)
	}
}

func TestRightOfDepths(t *testing.T) {
	for depth, want := range map[int]bool{1: true, 2: true, 3: true, 4: true, 5: false, 6: false, 100: false, 1 << 16: false} {
		checkRight(t, chain(depth), want)
	}
	// Too deep in the last kid alone.
	checkRight(t, api.Elem{Name: "a", Kids: []api.Elem{{Name: "b"}, chain(3), chain(3)}}, true)
	checkRight(t, api.Elem{Name: "a", Kids: []api.Elem{{Name: "b"}, chain(3), chain(4)}}, false)
	// What lies within itself is deeper than any.
	ring := api.Elem{Name: "a", Kids: make([]api.Elem, 1)}
	ring.Kids[0] = ring
	checkRight(t, ring, false)
	wide := api.Elem{Name: "a", Kids: kids(16)}
	for i := range wide.Kids {
		wide.Kids[i] = wide
	}
	checkRight(t, wide, false)
}

func TestRightOfMost(t *testing.T) {
	e := api.Elem{Name: long16, Attrs: pairs("a", "1", "b", "2", "c", "3", "d", "4", "e", "5", "f", "6"), Text: "x"}
	for range 3 {
		l := make([]api.Elem, 16)
		for i := range l {
			l[i] = e
		}
		around := e
		around.Kids = l
		e = around
	}
	checkRight(t, e, true)
	e.Kids[15].Kids[15].Kids[15] = api.Elem{Name: "a", Text: "\x00"}
	checkRight(t, e, false)
	checkRight(t, api.Elem{Name: "a", Text: strings.Repeat("<", 1<<20)}, true)
}

func TestWriteOfElements(t *testing.T) {
	for _, x := range []struct {
		e    api.Elem
		want string
	}{
		{api.Elem{Name: "a", Text: "x<"}, "<a>x&lt;</a>"},
		{api.Elem{Name: "a"}, "<a/>"},
		{api.Elem{Name: "a", Attrs: []api.Attr{}, Kids: []api.Elem{}}, "<a/>"},
		{api.Elem{Name: "a", Text: " "}, "<a> </a>"},
		{api.Elem{Name: "a", Attrs: pairs("b", "")}, "<a b=\"\"/>"},
		{api.Elem{Name: "a", Attrs: pairs("c", "1", "b", "2"), Text: "x"}, "<a c=\"1\" b=\"2\">x</a>"},
		{api.Elem{Name: "a", Attrs: pairs("b", "<>&\"'\t é")}, "<a b=\"&lt;&gt;&amp;&quot;&apos;\t é\"/>"},
		{api.Elem{Name: "a", Text: "<>&\"'\n😀&lt;"}, "<a>&lt;&gt;&amp;&quot;&apos;\n😀&amp;lt;</a>"},
		{api.Elem{Name: "a", Kids: []api.Elem{{Name: "b"}}}, "<a><b/></a>"},
		{api.Elem{Name: "a", Text: "x", Kids: []api.Elem{{Name: "b"}, {Name: "c", Text: "y"}, {Name: "b"}}}, "<a>x<b/><c>y</c><b/></a>"},
		{api.Elem{Name: "a", Kids: []api.Elem{{Name: "b", Attrs: pairs("d", "'"), Kids: []api.Elem{{Name: "c", Text: ">"}}}}}, "<a><b d=\"&apos;\"><c>&gt;</c></b></a>"},
		{chain(4), "<a><a><a><a/></a></a></a>"},
	} {
		if s, e := Write(x.e); s != x.want || e != api.OK {
			t.Errorf("%v: %q %d, want %q", x.e, s, e, x.want)
		}
	}
}

var standIns = strings.NewReplacer("&", "&amp;", "<", "&lt;", ">", "&gt;", "\"", "&quot;", "'", "&apos;")

func wantText(e api.Elem) string {
	s := "<" + e.Name
	for _, a := range e.Attrs {
		s += fmt.Sprintf(` %s="%s"`, a.Name, standIns.Replace(a.Value))
	}
	inside := standIns.Replace(e.Text)
	for _, kid := range e.Kids {
		inside += wantText(kid)
	}
	if inside == "" {
		return s + "/>"
	}
	return s + ">" + inside + "</" + e.Name + ">"
}

// readIn reads a stream in these pieces, and answers the items.
func readIn(pieces ...string) ([]api.Elem, api.Errno) {
	r, b := tags.New(), New()
	var items []api.Elem
	for _, p := range pieces {
		l, failed := r.Feed(p)
		for _, token := range l {
			v, ok, e := b.Take(token)
			if e != api.OK {
				return items, e
			}
			if ok && v.Kind == Item {
				items = append(items, v.Elem)
			}
		}
		if failed != api.OK {
			return items, failed
		}
	}
	return items, api.OK
}

func checkRead(t *testing.T, e api.Elem, pieces ...string) {
	t.Helper()
	l, f := readIn(pieces...)
	if f != api.OK || len(l) != 1 || !alike(l[0], e) || !Same(l[0], e) || !Same(e, l[0]) {
		t.Fatalf("%v in %q: %v %d", e, pieces, l, f)
	}
}

func TestWrittenIsReadInAllCuts(t *testing.T) {
	for _, e := range rightElems() {
		s, f := Write(e)
		if f != api.OK || s != wantText(e) {
			t.Fatalf("%v: %q %d", e, s, f)
		}
		checkRead(t, e, "<s>", s, "</s>")
		checkRead(t, e, "<s>"+s)
		checkRead(t, e, "<s> "+s+"\n</s>")
		checkRead(t, e, bytewise("<s>"+s)...)
		for i := range len(s) + 1 {
			checkRead(t, e, "<s>"+s[:i], s[i:])
			for j := i; j <= len(s) && len(s) < 90; j++ {
				checkRead(t, e, "<s>", s[:i], s[i:j], "", s[j:]+"</s>")
			}
		}
	}
}

func bytewise(s string) []string {
	var l []string
	for i := range len(s) {
		l = append(l, s[i:i+1])
	}
	return l
}

var drawnTexts = []string{"", "x", " ", "<", "&", "&lt;", "'\"", "é", "€😀", "\t\r\n", "</a>", "]]>", "\ufffd"}

func drawText(from *rand.Rand) string {
	s := ""
	for range from.Intn(4) {
		s += drawnTexts[from.Intn(len(drawnTexts))]
	}
	return s
}

func drawElem(from *rand.Rand, depth int) api.Elem {
	names := []string{"a", "b", "iq", "query", "a:b-1", long16}
	e := api.Elem{Name: names[from.Intn(len(names))], Text: drawText(from)}
	for _, i := range from.Perm(len(names))[:from.Intn(len(names)+1)] {
		e.Attrs = append(e.Attrs, api.Attr{Name: names[i], Value: drawText(from)})
	}
	if depth < 4 {
		for range from.Intn(4) {
			e.Kids = append(e.Kids, drawElem(from, depth+1))
		}
	}
	return e
}

// tokensIn counts the tokens that the text of e is read as.
func tokensIn(e api.Elem) int {
	n := 2
	if e.Text != "" {
		n++
	}
	for _, kid := range e.Kids {
		n += tokensIn(kid)
	}
	return n
}

func TestManyWrittenAreRead(t *testing.T) {
	from := rand.New(rand.NewSource(5))
	many := 0
	for range 3000 {
		e := drawElem(from, 1)
		s, f := Write(e)
		if f != api.OK || s != wantText(e) || !Right(e) {
			t.Fatalf("%v: %q %d", e, s, f)
		}
		var pieces []string
		for rest := "<s>" + s; rest != ""; {
			n := min(1+from.Intn(12), len(rest))
			pieces, rest = append(pieces, rest[:n]), rest[n:]
		}
		if tokensIn(e) > 64 { // more than is read of one item, in whatever pieces
			many++
			if l, f := readIn(pieces...); len(l) != 0 || f != api.ErrLong {
				t.Fatalf("%v: %v %d", e, l, f)
			}
			continue
		}
		checkRead(t, e, pieces...)
	}
	if many == 0 || many > 2000 {
		t.Error(many)
	}
}

// What may be is written though the layer below reads texts and tags of at most 512 bytes: those are read, longer ones aren't.
func TestWrittenOfMostBytes(t *testing.T) {
	most := api.Elem{Name: "a", Attrs: pairs("b", strings.Repeat("y", 512-6)), Text: strings.Repeat("x", 512)}
	s, e := Write(most)
	if e != api.OK {
		t.Fatal(e)
	}
	for i := range len(s) + 1 {
		checkRead(t, most, "<s>", s[:i], s[i:])
	}
	for _, more := range []api.Elem{{Name: "a", Text: strings.Repeat("x", 513)}, {Name: "a", Attrs: pairs("b", strings.Repeat("y", 513-6)), Text: "x"}} {
		s, e := Write(more)
		if e != api.OK || s != wantText(more) {
			t.Errorf("%.20q %d", s, e)
		}
		if l, e := readIn("<s>", s); len(l) != 0 || e != api.ErrLong {
			t.Error(l, e)
		}
	}
}

// changed answers what e is with one part of it changed, each part once.
func changed(e api.Elem) []api.Elem {
	var l []api.Elem
	add := func(change func(e *api.Elem)) {
		x := plain(e)
		x.Attrs = append([]api.Attr(nil), e.Attrs...)
		change(&x)
		l = append(l, x)
	}
	add(func(x *api.Elem) { x.Name += "x" })
	add(func(x *api.Elem) { x.Text += "x" })
	add(func(x *api.Elem) { x.Attrs = append(x.Attrs, api.Attr{}) })
	add(func(x *api.Elem) { x.Kids = append(x.Kids, api.Elem{}) })
	add(func(x *api.Elem) { x.Name, x.Text = x.Name+"\x00", "\x00"+x.Text })
	for i := range e.Attrs {
		add(func(x *api.Elem) { x.Attrs[i].Name += "x" })
		add(func(x *api.Elem) { x.Attrs[i].Value += "x" })
		add(func(x *api.Elem) { x.Attrs[i] = api.Attr{Name: x.Attrs[i].Value, Value: x.Attrs[i].Name} })
		add(func(x *api.Elem) { x.Attrs = append(x.Attrs[:i], x.Attrs[i+1:]...) })
		if i > 0 {
			add(func(x *api.Elem) { x.Attrs[0], x.Attrs[i] = x.Attrs[i], x.Attrs[0] })
		}
	}
	for i := range e.Kids {
		for _, kid := range changed(e.Kids[i]) {
			add(func(x *api.Elem) { x.Kids[i] = kid })
		}
		add(func(x *api.Elem) { x.Kids = append(x.Kids[:i], x.Kids[i+1:]...) })
		if i > 0 {
			add(func(x *api.Elem) { x.Kids[0], x.Kids[i] = x.Kids[i], x.Kids[0] })
		}
	}
	return l
}

func checkSame(t *testing.T, a, b api.Elem, want bool) {
	t.Helper()
	if Same(a, b) != want || Same(b, a) != want {
		t.Fatalf("%s and %s: %v %v", brief(a), brief(b), Same(a, b), Same(b, a))
	}
}

func TestSame(t *testing.T) {
	from := rand.New(rand.NewSource(7))
	elems := append(append(rightElems(), api.Elem{}), wrongElems()...)
	for range 60 {
		elems = append(elems, drawElem(from, 2))
	}
	for _, e := range elems {
		checkSame(t, e, e, true)
		checkSame(t, e, plain(e), true)
		if len(e.Kids) > 100 {
			continue
		}
		for _, other := range changed(e) {
			checkSame(t, e, other, alike(e, other))
		}
	}
	for _, a := range elems[:40] {
		for _, b := range elems[:40] {
			checkSame(t, a, b, alike(a, b))
		}
	}
}

func TestSameOfEmptyLists(t *testing.T) {
	without := api.Elem{Name: "a", Kids: []api.Elem{{Name: "b"}}}
	with := api.Elem{Name: "a", Attrs: []api.Attr{}, Kids: []api.Elem{{Name: "b", Attrs: []api.Attr{}, Kids: []api.Elem{}}}}
	checkSame(t, without, with, true)
	checkSame(t, without.Kids[0], with.Kids[0], true)
	checkSame(t, api.Elem{}, api.Elem{Attrs: []api.Attr{}, Kids: []api.Elem{}}, true)
	checkSame(t, api.Elem{}, api.Elem{Attrs: make([]api.Attr, 1)}, false)
	checkSame(t, api.Elem{}, api.Elem{Kids: make([]api.Elem, 1)}, false)
}

func TestSameOfDeepElements(t *testing.T) {
	checkSame(t, chain(1<<16), chain(1<<16), true)
	checkSame(t, chain(1<<16), chain(1<<16-1), false)
	checkSame(t, api.Elem{Kids: kids(1 << 16)}, api.Elem{Kids: kids(1 << 16)}, true)
	checkSame(t, api.Elem{Kids: kids(1 << 16)}, api.Elem{Kids: kids(1<<16 + 1)}, false)
}

func TestAttr(t *testing.T) {
	e := api.Elem{Name: "n", Attrs: pairs("a", "1", "b", "", "a", "2", "", "none", "é", "\x00"), Text: "t", Kids: []api.Elem{{Name: "k", Attrs: pairs("c", "3")}}}
	for _, x := range []struct {
		name, value string
		ok          bool
	}{
		{"a", "1", true}, {"b", "", true}, {"", "none", true}, {"é", "\x00", true},
		{"c", "", false}, {"n", "", false}, {"k", "", false}, {"A", "", false}, {"a ", "", false}, {"1", "", false}, {"aa", "", false},
	} {
		if v, ok := Attr(e, x.name); v != x.value || ok != x.ok {
			t.Errorf("%q: %q %v", x.name, v, ok)
		}
	}
	for _, e := range []api.Elem{{}, {Attrs: []api.Attr{}}} {
		for _, name := range []string{"", "a"} {
			if v, ok := Attr(e, name); v != "" || ok {
				t.Errorf("%q: %q %v", name, v, ok)
			}
		}
	}
}

func TestElementsAreLeft(t *testing.T) {
	for _, e := range append(rightElems(), wrongElems()...) {
		kept := plain(e)
		kept.Attrs = append([]api.Attr(nil), e.Attrs...)
		if len(kept.Attrs) == 0 {
			kept.Attrs = nil
		}
		first := Right(e)
		s, f := Write(e)
		Same(e, e)
		Attr(e, "a")
		again, g := Write(e)
		if !reflect.DeepEqual(plain(e), kept) || Right(e) != first || again != s || f != g {
			t.Error(brief(e))
		}
	}
}
