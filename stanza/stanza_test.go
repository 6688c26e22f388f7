package stanza

import (
	"fmt"
	"math/rand"
	"reflect"
	"regexp"
	"slices"
	"strings"
	"testing"

	"tidewater/api"
	"tidewater/tags"
	"tidewater/trees"
)

const word40 = "0123456789012345678901234567890123456789"

// row is an element, as it is written, and its stanza.
type row struct {
	text string
	s    api.Stanza
}

func items(n int) []api.Item {
	l := make([]api.Item, n)
	for i := range l {
		l[i] = api.Item{User: fmt.Sprint("u", i), Name: word40, Sub: i % 4, Asked: i%3 == 0}
	}
	return l
}

// rows are the rows of the chapter's table, each with all its parts, and without those that needn't be.
func rows() []row {
	return []row{
		{`<presence/>`, api.Stanza{Kind: api.Presence}},
		{`<presence type="unavailable"/>`, api.Stanza{Kind: api.Presence, Type: "unavailable"}},
		{`<presence type="subscribe" to="bob"/>`, api.Stanza{Kind: api.Presence, Type: "subscribe", To: "bob"}},
		{`<presence type="subscribed" from="ann"/>`, api.Stanza{Kind: api.Presence, Type: "subscribed", From: "ann"}},
		{`<presence type="unsubscribe" from="ann/pad" to="bob/d1"/>`, api.Stanza{Kind: api.Presence, Type: "unsubscribe", From: "ann/pad", To: "bob/d1"}},
		{`<presence type="unsubscribed" from="1" to="2/3"/>`, api.Stanza{Kind: api.Presence, Type: "unsubscribed", From: "1", To: "2/3"}},
		{`<presence from="` + user16 + "/" + user16 + `" to="` + user16 + `"/>`, api.Stanza{Kind: api.Presence, From: user16 + "/" + user16, To: user16}},
		{`<presence><show>away</show></presence>`, api.Stanza{Kind: api.Presence, Show: "away"}},
		{`<presence><show>chat</show></presence>`, api.Stanza{Kind: api.Presence, Show: "chat"}},
		{`<presence from="ann"><show>dnd</show></presence>`, api.Stanza{Kind: api.Presence, From: "ann", Show: "dnd"}},
		{`<presence from="ann" to="bob"><show>xa</show></presence>`, api.Stanza{Kind: api.Presence, From: "ann", To: "bob", Show: "xa"}},
		{`<iq type="get" id="1"><query/></iq>`, api.Stanza{Kind: api.Get, Id: "1"}},
		{`<iq type="get" id="1"><query ver="1"/></iq>`, api.Stanza{Kind: api.Get, Id: "1", Ver: 1}},
		{`<iq type="get" id="` + word40 + `"><query ver="1000000"/></iq>`, api.Stanza{Kind: api.Get, Id: word40, Ver: 1000000}},
		{`<iq type="get" id="&lt;&amp;&quot; é"><query/></iq>`, api.Stanza{Kind: api.Get, Id: "<&\" é"}},
		{`<iq type="set" id="1"><query><item jid="bob"/></query></iq>`, api.Stanza{Kind: api.Set, Id: "1", Items: []api.Item{{User: "bob"}}}},
		{`<iq type="set" id="1"><query ver="9"><item jid="bob" name="B b" subscription="to" ask="subscribe"/></query></iq>`, api.Stanza{Kind: api.Set, Id: "1", Ver: 9, Items: []api.Item{{User: "bob", Name: "B b", Sub: api.SubTo, Asked: true}}}},
		{`<iq type="set" id="1"><query><item jid="bob" subscription="from"/></query></iq>`, api.Stanza{Kind: api.Set, Id: "1", Items: []api.Item{{User: "bob", Sub: api.SubFrom}}}},
		{`<iq type="set" id="1"><query><item jid="bob" subscription="both"/></query></iq>`, api.Stanza{Kind: api.Set, Id: "1", Items: []api.Item{{User: "bob", Sub: api.SubBoth}}}},
		{`<iq type="set" id="1"><query><item jid="bob" subscription="remove"/></query></iq>`, api.Stanza{Kind: api.Set, Id: "1", Remove: true, Items: []api.Item{{User: "bob"}}}},
		{`<iq type="set" id="push"><query ver="1000000"><item jid="bob" name="B" subscription="remove" ask="subscribe"/></query></iq>`, api.Stanza{Kind: api.Set, Id: "push", Ver: 1000000, Remove: true, Items: []api.Item{{User: "bob", Name: "B", Asked: true}}}},
		{`<iq type="result" id="1"/>`, api.Stanza{Kind: api.Result, Id: "1"}},
		{`<iq type="result" id="1"><query ver="1"/></iq>`, api.Stanza{Kind: api.Result, Id: "1", Ver: 1}},
		{`<iq type="result" id="1"><query ver="2"><item jid="bob" name="B" subscription="both"/><item jid="cy" ask="subscribe"/></query></iq>`, api.Stanza{Kind: api.Result, Id: "1", Ver: 2, Items: []api.Item{{User: "bob", Name: "B", Sub: api.SubBoth}, {User: "cy", Asked: true}}}},
		{`<iq type="result" id="1"><query ver="1000000"><item jid="a"/><item jid="a"/><item jid="b" subscription="to"/><item jid="c" subscription="from"/></query></iq>`, api.Stanza{Kind: api.Result, Id: "1", Ver: 1000000, Items: []api.Item{{User: "a"}, {User: "a"}, {User: "b", Sub: 1}, {User: "c", Sub: 2}}}},
		{`<iq type="error" id="1"><error>full</error></iq>`, api.Stanza{Kind: api.Fault, Id: "1", Reason: "full"}},
		{`<iq type="error" id="1"><error> &lt; ` + "\n" + `</error></iq>`, api.Stanza{Kind: api.Fault, Id: "1", Reason: " < \n"}},
		{`<iq type="error" id="1"><error>` + word40 + `</error></iq>`, api.Stanza{Kind: api.Fault, Id: "1", Reason: word40}},
		{`<enable/>`, api.Stanza{Kind: api.Enable}},
		{`<enabled id="x"/>`, api.Stanza{Kind: api.Enabled, Token: "x"}},
		{`<enabled id="` + word40 + `"/>`, api.Stanza{Kind: api.Enabled, Token: word40}},
		{`<r/>`, api.Stanza{Kind: api.Ask}},
		{`<a h="0"/>`, api.Stanza{Kind: api.Ack}},
		{`<a h="5"/>`, api.Stanza{Kind: api.Ack, H: 5}},
		{`<a h="4294967295"/>`, api.Stanza{Kind: api.Ack, H: 4294967295}},
		{`<resume h="0" previd="x"/>`, api.Stanza{Kind: api.Resume, Token: "x"}},
		{`<resume h="4294967295" previd="` + word40 + `"/>`, api.Stanza{Kind: api.Resume, H: 4294967295, Token: word40}},
		{`<resumed h="0" previd="x"/>`, api.Stanza{Kind: api.Resumed, Token: "x"}},
		{`<resumed h="10" previd="a&amp;b"/>`, api.Stanza{Kind: api.Resumed, H: 10, Token: "a&b"}},
		{`<failed/>`, api.Stanza{Kind: api.Failed}},
		{`<active/>`, api.Stanza{Kind: api.Active}},
		{`<inactive/>`, api.Stanza{Kind: api.Inactive}},
	}
}

// parse answers the element of this text, which comes in pieces of so many bytes within a stream.
func parse(t *testing.T, text string, piece int) api.Elem {
	t.Helper()
	r, b := tags.New(), trees.New()
	for rest := "<s>" + text; rest != ""; {
		n := min(piece, len(rest))
		l, e := r.Feed(rest[:n])
		rest = rest[n:]
		for _, x := range l {
			v, ok, f := b.Take(x)
			e = max(e, f)
			if ok && v.Kind == trees.Item {
				return v.Elem
			}
		}
		if e != api.OK {
			t.Fatalf("%q: %d", text, e)
		}
	}
	t.Fatalf("%q is no element", text)
	return api.Elem{}
}

func pairs(namesAndValues ...string) []api.Attr {
	var l []api.Attr
	for i := 0; i < len(namesAndValues); i += 2 {
		l = append(l, api.Attr{Name: namesAndValues[i], Value: namesAndValues[i+1]})
	}
	return l
}

func copyOf(e api.Elem) api.Elem {
	e.Attrs, e.Kids = slices.Clone(e.Attrs), slices.Clone(e.Kids)
	for i := range e.Kids {
		e.Kids[i] = copyOf(e.Kids[i])
	}
	return e
}

// flat tells an element with its attributes sorted, so that elements are told alike just if they are the same but for that row.
func flat(e api.Elem) string {
	l := slices.Clone(e.Attrs)
	slices.SortStableFunc(l, func(a, b api.Attr) int { return strings.Compare(a.Name, b.Name) })
	text := fmt.Sprintf("%q[", e.Name)
	for _, a := range l {
		text += fmt.Sprintf(" %q=%q", a.Name, a.Value)
	}
	text += fmt.Sprintf("]%q{", e.Text)
	for _, kid := range e.Kids {
		text += flat(kid)
	}
	return text + "}"
}

// form is a regular expression of how flat tells a right element: its attributes (? behind one that needn't be) sorted by name.
func form(name, attrs, text, kids string) string {
	all := ""
	for _, a := range strings.Fields(attrs) {
		a, needn := strings.CutSuffix(a, "?")
		key, value, _ := strings.Cut(a, "=")
		one := `(?: "` + key + `"="(?:` + value + `)")`
		if needn {
			one += "?"
		}
		all += one
	}
	return `"` + name + `"\[` + all + `\]"` + text + `"\{` + kids + `\}`
}

// rightForms are the chapter's table once more. Its words stand for those that the tests of many elements take.
func rightForms() *regexp.Regexp {
	const (
		word    = `[\x20!#-\[\]-~]{1,40}`
		user    = `[a-z0-9]{1,16}`
		address = user + `(?:/` + user + `)?`
		number  = `(?:0|[1-9][0-9]{0,8}|[1-3][0-9]{9}|4[01][0-9]{8}|42949672[0-8][0-9]|429496729[0-5])`
		ver     = `(?:[1-9][0-9]{0,5}|1000000)`
	)
	item := func(subs string) string {
		return form("item", "ask=subscribe? jid="+user+" name="+word+"? subscription="+subs+"?", "", "")
	}
	iq := func(kind, kids string) string { return form("iq", "id="+word+" type="+kind, "", kids) }
	where := "from=" + address + "? to=" + address + "?"
	l := []string{
		form("presence", where, "", "(?:"+form("show", "", "(?:away|chat|dnd|xa)", "")+")?"),
		form("presence", where+" type=unavailable|subscribe|subscribed|unsubscribe|unsubscribed", "", ""),
		iq("get", form("query", "ver="+ver+"?", "", "")),
		iq("set", form("query", "ver="+ver+"?", "", item("to|from|both|remove"))),
		iq("result", "(?:"+form("query", "ver="+ver, "", "(?:"+item("to|from|both")+"){0,16}")+")?"),
		iq("error", form("error", "", word, "")),
		form("(?:enable|r|failed|active|inactive)", "", "", ""),
		form("enabled", "id="+word, "", ""),
		form("a", "h="+number, "", ""),
		form("resumed?", "h="+number+" previd="+word, "", ""),
	}
	return regexp.MustCompile(`^(?:` + strings.Join(l, "|") + `)$`)
}

var right = rightForms()

const names = " presence iq enable enabled r a resume resumed failed active inactive "

// wantErr is what Read is to answer of e.
func wantErr(e api.Elem) api.Errno {
	if e.Name == "" || strings.Contains(e.Name, " ") || !strings.Contains(names, " "+e.Name+" ") {
		return api.ErrKind
	}
	if e.Name == "iq" {
		kind := ""
		for _, a := range slices.Backward(e.Attrs) {
			if a.Name == "type" {
				kind = a.Value
			}
		}
		if !slices.Contains([]string{"get", "set", "result", "error"}, kind) {
			return api.ErrKind
		}
	}
	if !right.MatchString(flat(e)) {
		return api.ErrForm
	}
	return api.OK
}

// checkRead holds Read against the forms, and what it answers against what is written of that.
func checkRead(t *testing.T, e api.Elem) {
	t.Helper()
	ahead := flat(e)
	s, f := Read(e)
	if want := wantErr(e); f != want {
		t.Fatalf("%s: %d, want %d", ahead, f, want)
	}
	if flat(e) != ahead {
		t.Fatalf("%s was changed to %s", ahead, flat(e))
	}
	if f != api.OK {
		if !reflect.DeepEqual(s, api.Stanza{}) {
			t.Fatalf("%s: %v beside %d", ahead, s, f)
		}
		return
	}
	back, f := Write(s)
	if f != api.OK || flat(back) != ahead {
		t.Fatalf("%s: %+v, written as %s %d", ahead, s, flat(back), f)
	}
	if again, f := Read(back); f != api.OK || !Same(again, s) || !reflect.DeepEqual(again, s) {
		t.Fatalf("%s: %+v, read again as %+v %d", ahead, s, again, f)
	}
}

func checkReadAs(t *testing.T, e api.Elem, want api.Stanza) {
	t.Helper()
	if s, f := Read(e); f != api.OK || !Same(s, want) || fmt.Sprintf("%+v", s) != fmt.Sprintf("%+v", want) {
		t.Errorf("%s: %+v %d, want %+v", flat(e), s, f, want)
	}
}

func TestReadOfEveryRow(t *testing.T) {
	for _, x := range rows() {
		e := parse(t, x.text, 1000)
		checkReadAs(t, e, x.s)
		if isPlain(e) {
			checkRead(t, e)
		}
	}
}

// isPlain tells whether e has only words that the forms know.
func isPlain(e api.Elem) bool { return !strings.ContainsAny(flat(e), "é\\") }

func TestWriteOfEveryRow(t *testing.T) {
	for _, x := range rows() {
		e, f := Write(x.s)
		text, g := trees.Write(e)
		if f != api.OK || g != api.OK || text != x.text {
			t.Errorf("%+v: %s %d %d, want %s", x.s, text, f, g, x.text)
		}
	}
}

func TestWhatIsWrittenIsReadInPieces(t *testing.T) {
	l := rows()
	for n := range 17 {
		l = append(l, row{s: api.Stanza{Kind: api.Result, Id: word40, Ver: 7, Items: items(n)}})
	}
	hard := strings.Repeat(`"`, 40)
	for _, s := range []api.Stanza{
		{Kind: api.Get, Id: hard}, {Kind: api.Fault, Id: hard, Reason: hard}, {Kind: api.Enabled, Token: hard}, {Kind: api.Resume, H: 4294967295, Token: hard},
		{Kind: api.Set, Id: hard, Ver: 1000000, Items: []api.Item{{User: user16, Name: hard, Sub: 2, Asked: true}}},
		{Kind: api.Fault, Id: "\r\n\t", Reason: "\t\r\n 😀\ufffd"},
	} {
		l = append(l, row{s: s})
	}
	for _, x := range l {
		e, f := Write(x.s)
		text, g := trees.Write(e)
		if f != api.OK || g != api.OK || !trees.Right(e) {
			t.Fatalf("%+v: %d %d", x.s, f, g)
		}
		for _, piece := range []int{1, 2, 3, 7, 64, 10000} {
			checkReadAs(t, parse(t, text, piece), x.s)
		}
	}
}

func TestReadOfUnknownElements(t *testing.T) {
	for _, name := range []string{"", "x", "Presence", "presence ", " r", "presences", "message", "iq get", "iqget", "IQ", "show", "query", "item", "error", "h", "R", "A", "enable:", "s", "stream", "\x00", "\xff", strings.Repeat("a", 1e6)} {
		for _, e := range []api.Elem{{Name: name}, {Name: name, Attrs: pairs("type", "get", "id", "1"), Kids: []api.Elem{{Name: "query"}}}, {Name: name, Text: "\x00", Kids: make([]api.Elem, 40)}, {Name: name, Attrs: pairs("jid", "bob")}, {Name: name, Text: "away"}} {
			if s, f := Read(e); f != api.ErrKind || !reflect.DeepEqual(s, api.Stanza{}) {
				t.Errorf("%.40q: %v %d", name, s, f)
			}
		}
	}
}

func TestReadOfIqOfNoType(t *testing.T) {
	for _, attrs := range [][]api.Attr{
		nil, pairs("id", "1"), pairs("type", "", "id", "1"), pairs("type", "x", "id", "1"), pairs("id", "1", "type", "Get"), pairs("type", "get ", "id", "1"),
		pairs("type", "getset", "id", "1"), pairs("Type", "get", "id", "1"), pairs("type", "fault"), pairs("type", "subscribe"), pairs("type", "\xff", "x", "y"),
	} {
		for _, kids := range [][]api.Elem{nil, {{Name: "query"}}, {{Name: "x"}, {Name: "y"}}} {
			e := api.Elem{Name: "iq", Attrs: attrs, Kids: kids, Text: strings.Repeat("z", len(kids))}
			if s, f := Read(e); f != api.ErrKind || !reflect.DeepEqual(s, api.Stanza{}) {
				t.Errorf("%s: %v %d", flat(e), s, f)
			}
		}
	}
}

// TestReadRefuses is of right elements with one thing wrong.
func TestReadRefuses(t *testing.T) {
	query := func(kind, attrs, inside string) string {
		return `<iq type="` + kind + `" id="1"><query` + attrs + `>` + inside + `</query></iq>`
	}
	for _, text := range []string{
		`<presence type="away"/>`, `<presence type=""/>`, `<presence type="Subscribe"/>`, `<presence type="available"/>`, `<presence type="error"/>`, `<presence id="1"/>`, `<presence show="away"/>`,
		`<presence from=""/>`, `<presence to=""/>`, `<presence to="B"/>`, `<presence to="bob/"/>`, `<presence to="/d1"/>`, `<presence to="bob/d1/x"/>`, `<presence from="bob//d1"/>`, `<presence from="a b"/>`, `<presence to="` + user16 + `x"/>`, `<presence from="a/` + user16 + `x"/>`,
		`<presence>x</presence>`, `<presence> </presence>`, `<presence>away</presence>`, `<presence> <show>away</show></presence>`,
		`<presence><show/></presence>`, `<presence><show>busy</show></presence>`, `<presence><show> away</show></presence>`, `<presence><show>AWAY</show></presence>`, `<presence><show>awaychat</show></presence>`,
		`<presence><show a="1">away</show></presence>`, `<presence><show>away<b/></show></presence>`, `<presence><show>away</show><show>away</show></presence>`, `<presence><show>away</show><x/></presence>`, `<presence><x/></presence>`, `<presence><status>away</status></presence>`,
		`<presence type="unavailable"><show>away</show></presence>`, `<presence type="subscribe" to="bob"><show>chat</show></presence>`, `<presence type="unavailable"><show/></presence>`,
		`<iq type="get" id="1"/>`, `<iq type="get"><query/></iq>`, `<iq type="get" id=""><query/></iq>`, `<iq type="get" id="` + word40 + `x"><query/></iq>`, `<iq type="get" id="1" to="bob"><query/></iq>`, `<iq type="get" id="1">x<query/></iq>`, `<iq type="get" id="1"><query/> </iq>`,
		`<iq type="get" id="1"><query/><query/></iq>`, `<iq type="get" id="1"><query>x</query></iq>`, `<iq type="get" id="1"><x/></iq>`, `<iq type="get" id="1"><error>x</error></iq>`, query("get", "", `<item jid="a"/>`), query("get", ` x="1"`, ""),
		query("get", ` ver="0"`, ""), query("get", ` ver=""`, ""), query("get", ` ver="01"`, ""), query("get", ` ver="-1"`, ""), query("get", ` ver="+1"`, ""), query("get", ` ver="1.0"`, ""), query("get", ` ver=" 1"`, ""), query("get", ` ver="x"`, ""), query("get", ` ver="1000001"`, ""), query("get", ` ver="4294967297"`, ""), query("get", ` ver="18446744073709551617"`, ""),
		`<iq type="set" id="1"/>`, query("set", "", ""), query("set", "", `<item jid="a"/><item jid="b"/>`), query("set", "", `<x jid="a"/>`), query("set", "", `x<item jid="a"/>`), query("set", ` ver="0"`, `<item jid="a"/>`), query("set", ` ver="1000001"`, `<item jid="a"/>`), `<iq type="set"><query><item jid="a"/></query></iq>`, `<iq type="set" id="1"><item jid="a"/></iq>`,
		query("result", "", ""), query("result", "", `<item jid="a"/>`), query("result", ` ver="0"`, ""), query("result", ` ver="1000001"`, ""), query("result", ` ver="1"`, `<item jid="a"/><x/>`), query("result", ` ver="1"`, " "), `<iq type="result"/>`, `<iq type="result" id="1">x</iq>`, `<iq type="result" id="1"><x/></iq>`, `<iq type="result" id="1"><query ver="1"/><query ver="1"/></iq>`, `<iq type="result" id="1"><item jid="a"/></iq>`,
		`<iq type="error" id="1"/>`, `<iq type="error" id="1"><error/></iq>`, `<iq type="error"><error>x</error></iq>`, `<iq type="error" id="1"><error a="1">x</error></iq>`, `<iq type="error" id="1"><error>x<b/></error></iq>`, `<iq type="error" id="1"><error>x</error><error>x</error></iq>`, `<iq type="error" id="1"><error>` + word40 + `x</error></iq>`, `<iq type="error" id="1"><query/></iq>`, `<iq type="error" id="1">x</iq>`,
		`<enable id="1"/>`, `<enable>x</enable>`, `<enable><x/></enable>`, `<r>x</r>`, `<r h="1"/>`, `<r><r/></r>`, `<failed h="1"/>`, `<failed> </failed>`, `<active x="1"/>`, `<active><x/></active>`, `<inactive type="x"/>`, `<inactive>x</inactive>`,
		`<enabled/>`, `<enabled id=""/>`, `<enabled id="` + word40 + `x"/>`, `<enabled id="x" h="1"/>`, `<enabled previd="x"/>`, `<enabled id="x">y</enabled>`, `<enabled id="x"><y/></enabled>`,
		`<a/>`, `<a h=""/>`, `<a h="01"/>`, `<a h="00"/>`, `<a h="-0"/>`, `<a h="-1"/>`, `<a h="+1"/>`, `<a h="x"/>`, `<a h="1 "/>`, `<a h="0x1"/>`, `<a h="1_0"/>`, `<a h="4294967296"/>`, `<a h="10000000000"/>`, `<a h="18446744073709551616"/>`, `<a h="1" id="1"/>`, `<a h="1">x</a>`, `<a h="1"><x/></a>`,
		`<resume/>`, `<resume h="1"/>`, `<resume previd="x"/>`, `<resume h="" previd="x"/>`, `<resume h="1" previd=""/>`, `<resume h="01" previd="x"/>`, `<resume h="4294967296" previd="x"/>`, `<resume h="1" previd="` + word40 + `x"/>`, `<resume h="1" previd="x" id="y"/>`, `<resume h="1" previd="x">y</resume>`, `<resume h="1" previd="x"><y/></resume>`,
		`<resumed/>`, `<resumed h="1"/>`, `<resumed previd="x"/>`, `<resumed h="1" previd=""/>`, `<resumed h="x" previd="x"/>`, `<resumed h="1" previd="x" x="1"/>`, `<resumed h="1" previd="x">y</resumed>`,
	} {
		if s, f := Read(parse(t, text, 1000)); f != api.ErrForm || !reflect.DeepEqual(s, api.Stanza{}) {
			t.Errorf("%s: %+v %d", text, s, f)
		}
	}
}

func TestReadOfItems(t *testing.T) {
	for attrs, want := range map[string]api.Item{
		`jid="bob"`:                                              {User: "bob"},
		`jid="` + user16 + `"`:                                   {User: user16},
		`jid="bob" name="x"`:                                     {User: "bob", Name: "x"},
		`jid="bob" name=" "`:                                     {User: "bob", Name: " "},
		`name="` + word40 + `" jid="0"`:                          {User: "0", Name: word40},
		`subscription="to" jid="bob"`:                            {User: "bob", Sub: 1},
		`jid="bob" subscription="from"`:                          {User: "bob", Sub: 2},
		`jid="bob" subscription="both"`:                          {User: "bob", Sub: 3},
		`ask="subscribe" jid="bob"`:                              {User: "bob", Asked: true},
		`ask="subscribe" subscription="from" name="B" jid="bob"`: {User: "bob", Name: "B", Sub: 2, Asked: true},
	} {
		for kind, number := range map[string]int{"set": api.Set, "result": api.Result} {
			text := `<iq type="` + kind + `" id="1"><query ver="3"><item ` + attrs + `/></query></iq>`
			checkReadAs(t, parse(t, text, 1000), api.Stanza{Kind: number, Id: "1", Ver: 3, Items: []api.Item{want}})
		}
	}
	for _, item := range []string{
		`<item/>`, `<item name="x"/>`, `<item jid=""/>`, `<item jid="Bob"/>`, `<item jid="bob/d1"/>`, `<item jid="` + user16 + `x"/>`, `<item jid="bob" name=""/>`, `<item jid="bob" name="` + word40 + `x"/>`,
		`<item jid="bob" subscription="none"/>`, `<item jid="bob" subscription=""/>`, `<item jid="bob" subscription="0"/>`, `<item jid="bob" subscription="To"/>`, `<item jid="bob" subscription="removed"/>`,
		`<item jid="bob" ask=""/>`, `<item jid="bob" ask="yes"/>`, `<item jid="bob" ask="subscribed"/>`, `<item jid="bob" x="1"/>`, `<item jid="bob">x</item>`, `<item jid="bob"><x/></item>`,
	} {
		for _, kind := range []string{"set", "result"} {
			text := `<iq type="` + kind + `" id="1"><query ver="3">` + item + `</query></iq>`
			if s, f := Read(parse(t, text, 1000)); f != api.ErrForm || !reflect.DeepEqual(s, api.Stanza{}) {
				t.Errorf("%s: %+v %d", text, s, f)
			}
		}
	}
	// Remove is a Set's alone, and so is refused in a Result wherever it stands.
	for _, inside := range []string{`<item jid="a" subscription="remove"/>`, `<item jid="b"/><item jid="a" subscription="remove"/>`, `<item jid="a" subscription="remove"/><item jid="b"/>`} {
		if s, f := Read(parse(t, `<iq type="result" id="1"><query ver="3">`+inside+`</query></iq>`, 1000)); f != api.ErrForm {
			t.Errorf("%s: %+v %d", inside, s, f)
		}
	}
}

func TestReadOfManyItems(t *testing.T) {
	for n := range 40 {
		e := api.Elem{Name: "iq", Attrs: pairs("id", "1", "type", "result"), Kids: []api.Elem{{Name: "query", Attrs: pairs("ver", "4")}}}
		for i := range n {
			e.Kids[0].Kids = append(e.Kids[0].Kids, api.Elem{Name: "item", Attrs: pairs("jid", fmt.Sprint("u", i))})
		}
		checkRead(t, e)
		s, f := Read(e)
		if n > 16 {
			if f != api.ErrForm || len(s.Items) != 0 {
				t.Errorf("%d items: %d", n, f)
			}
			continue
		}
		if f != api.OK || len(s.Items) != n {
			t.Errorf("%d items: %v %d", n, s, f)
		}
		for i := range s.Items {
			if s.Items[i] != (api.Item{User: fmt.Sprint("u", i)}) {
				t.Errorf("item %d of %d: %v", i, n, s.Items[i])
			}
		}
	}
}

// wordPlaces are elements and stanzas with s in each place of a word.
func wordPlaces(s string) ([]api.Elem, []api.Stanza) {
	iq := func(kind string, kids ...api.Elem) api.Elem {
		return api.Elem{Name: "iq", Attrs: pairs("type", kind, "id", s), Kids: kids}
	}
	named := []api.Elem{{Name: "item", Attrs: pairs("jid", "bob", "name", s)}}
	inQuery := func(kind string) api.Elem {
		return api.Elem{Name: "iq", Attrs: pairs("type", kind, "id", "1"), Kids: []api.Elem{{Name: "query", Attrs: pairs("ver", "2"), Kids: named}}}
	}
	return []api.Elem{
		iq("get", api.Elem{Name: "query"}),
		iq("set", api.Elem{Name: "query", Kids: []api.Elem{{Name: "item", Attrs: pairs("jid", "bob")}}}),
		iq("result"),
		iq("error", api.Elem{Name: "error", Text: "x"}),
		{Name: "iq", Attrs: pairs("type", "error", "id", "1"), Kids: []api.Elem{{Name: "error", Text: s}}},
		{Name: "enabled", Attrs: pairs("id", s)},
		{Name: "resume", Attrs: pairs("h", "1", "previd", s)},
		{Name: "resumed", Attrs: pairs("h", "1", "previd", s)},
		inQuery("set"),
		inQuery("result"),
	}, []api.Stanza{
		{Kind: api.Get, Id: s},
		{Kind: api.Set, Id: s, Items: []api.Item{{User: "bob"}}},
		{Kind: api.Result, Id: s},
		{Kind: api.Fault, Id: s, Reason: "x"},
		{Kind: api.Fault, Id: "1", Reason: s},
		{Kind: api.Enabled, Token: s},
		{Kind: api.Resume, H: 1, Token: s},
		{Kind: api.Resumed, H: 1, Token: s},
		{Kind: api.Set, Id: "1", Ver: 2, Items: []api.Item{{User: "bob", Name: s}}},
		{Kind: api.Result, Id: "1", Ver: 2, Items: []api.Item{{User: "bob", Name: s}}},
	}
}

func checkWord(t *testing.T, s string, want bool) {
	t.Helper()
	elems, stanzas := wordPlaces(s)
	for i, e := range elems {
		got, f := Read(e)
		if want && (f != api.OK || !reflect.DeepEqual(got, stanzas[i])) || !want && (f != api.ErrForm || !reflect.DeepEqual(got, api.Stanza{})) {
			t.Errorf("%.60q in place %d: read %+v %d", s, i, got, f)
		}
		named := len(stanzas[i].Items) > 0 && stanzas[i].Id == "1"
		if s == "" && named {
			continue // an empty name is none, and that may be written
		}
		back, f := Write(stanzas[i])
		if want && (f != api.OK || !trees.Same(back, e)) || !want && (f != api.ErrArg || !trees.Same(back, api.Elem{})) {
			t.Errorf("%.60q in place %d: written %s %d", s, i, flat(back), f)
		}
	}
}

func TestWords(t *testing.T) {
	for s, want := range map[string]bool{
		"":                               false,
		"x":                              true,
		" ":                              true,
		"<>&\"'":                         true,
		"\t\n\r":                         true,
		"Any / word é😀\ufffd":            true,
		word40[1:]:                       true,
		word40:                           true,
		word40 + "x":                     false,
		strings.Repeat("é", 20):          true, // bytes are counted, not signs
		strings.Repeat("é", 20) + "x":    false,
		strings.Repeat("é", 21):          false,
		strings.Repeat("😀", 10):          true,
		strings.Repeat("😀", 11):          false,
		strings.Repeat("x", 100000):      false,
		"\x00":                           false,
		"a\x08":                          false,
		"\x0b":                           false,
		"\x1f":                           false,
		"\x7f":                           true,
		"\xff":                           false,
		"a\xc3":                          false,
		"\xc3a":                          false,
		"\xc0\x80":                       false,
		"\xed\xa0\x80":                   false,
		"\xef\xbf\xbe":                   false,
		"\xef\xbf\xbf":                   false,
		"\xf4\x90\x80\x80":               false,
		"\xf4\x8f\xbf\xbf":               true,
		word40[2:] + "\xc3\xa9":          true,
		word40[1:] + "\xc3":              false,
		word40[1:] + "\xc3\xa9":          false,
		strings.Repeat("x", 39) + "\x01": false,
	} {
		checkWord(t, s, want)
	}
}

func TestNumbers(t *testing.T) {
	for s, want := range map[string]int64{
		"0": 0, "1": 1, "9": 9, "10": 10, "42": 42, "2147483648": 1 << 31, "4294967294": 4294967294, "4294967295": 4294967295,
		"": -1, "4294967296": -1, "4294967300": -1, "9999999999": -1, "18446744073709551615": -1, "18446744073709551616": -1, "00": -1, "01": -1, "000": -1, "+1": -1, "-1": -1, "-0": -1, " 1": -1, "1 ": -1, "1.": -1, "1e3": -1, "0x1": -1, "1_0": -1, "x": -1, "\x00": -1, "\xff": -1, "１": -1, strings.Repeat("9", 100000): -1,
	} {
		for name, kind := range map[string]int{"a": api.Ack, "resume": api.Resume, "resumed": api.Resumed} {
			e, x := api.Elem{Name: name, Attrs: pairs("h", s)}, api.Stanza{Kind: kind, H: uint32(max(want, 0))}
			if kind != api.Ack {
				e.Attrs, x.Token = append(e.Attrs, pairs("previd", "t")...), "t"
			}
			got, f := Read(e)
			if want < 0 && (f != api.ErrForm || !reflect.DeepEqual(got, api.Stanza{})) || want >= 0 && (f != api.OK || !reflect.DeepEqual(got, x)) {
				t.Errorf("%.40q: %+v %d", s, got, f)
			}
			if want < 0 {
				continue
			}
			if back, f := Write(x); f != api.OK || !trees.Same(back, e) {
				t.Errorf("%.40q: written %s %d", s, flat(back), f)
			}
		}
	}
}

func TestVersions(t *testing.T) {
	one := []api.Item{{User: "bob"}}
	for _, ver := range []int{-1 << 63, -1 << 32, -1<<32 + 1, -1000000, -2, -1, 0, 1, 2, 10, 999999, 1000000, 1000001, 4294967295, 1 << 32, 1<<32 + 1, 1<<32 + 1000000, 1<<63 - 1} {
		want := api.ErrArg
		if 0 <= ver && ver <= 1000000 {
			want = api.OK
		}
		for _, s := range []api.Stanza{{Kind: api.Get, Id: "1", Ver: ver}, {Kind: api.Set, Id: "1", Ver: ver, Items: one}, {Kind: api.Result, Id: "1", Ver: ver}, {Kind: api.Result, Id: "1", Ver: ver, Items: one}} {
			want := want
			if s.Kind == api.Result && ver == 0 && len(s.Items) > 0 {
				want = api.ErrArg // there is no query that could hold them
			}
			checkWrite(t, s, want)
			e, f := Write(s)
			if f != api.OK {
				continue
			}
			v, there := "", false
			if len(e.Kids) > 0 {
				v, there = trees.Attr(e.Kids[0], "ver")
			}
			if there != (ver > 0) || there && v != fmt.Sprint(ver) {
				t.Errorf("%+v: %s", s, flat(e))
			}
		}
	}
}

// checkWrite holds what Write answers of s against want, and against what is read of it.
func checkWrite(t *testing.T, s api.Stanza, want api.Errno) {
	t.Helper()
	ahead := fmt.Sprintf("%#v", s)
	e, f := Write(s)
	if fmt.Sprintf("%#v", s) != ahead {
		t.Fatalf("%s was changed to %#v", ahead, s)
	}
	if f != want {
		t.Errorf("%s: %s %d, want %d", ahead, flat(e), f, want)
		return
	}
	if f != api.OK {
		if !reflect.DeepEqual(e, api.Elem{}) {
			t.Errorf("%s: %s beside %d", ahead, flat(e), f)
		}
		return
	}
	if back, g := Read(e); g != api.OK || !Same(back, s) || !Same(s, back) || !trees.Right(e) {
		t.Errorf("%s: %s, read again as %#v %d", ahead, flat(e), back, g)
	}
}

// part is a part of a stanza: which it is, and a way to give it a value that may be, of the kinds that have it.
type part struct {
	name string
	give func(s *api.Stanza)
}

func parts() []part {
	return []part{
		{"type", func(s *api.Stanza) { s.Type = "subscribe" }},
		{"id", func(s *api.Stanza) { s.Id = "1" }},
		{"from", func(s *api.Stanza) { s.From = "ann" }},
		{"to", func(s *api.Stanza) { s.To = "bob/pad" }},
		{"show", func(s *api.Stanza) { s.Show = "away" }},
		{"token", func(s *api.Stanza) { s.Token = "t" }},
		{"reason", func(s *api.Stanza) { s.Reason = "full" }},
		{"h", func(s *api.Stanza) { s.H = 1 }},
		{"ver", func(s *api.Stanza) { s.Ver = 1 }},
		{"remove", func(s *api.Stanza) { s.Remove = true }},
		{"items", func(s *api.Stanza) { s.Items = []api.Item{{User: "cy"}} }},
	}
}

// mayBe tells whether a stanza with these parts, that may be, may be.
func mayBe(kind int, has map[string]bool) bool {
	need, can := "", ""
	switch kind {
	case api.Presence:
		can = "type from to show"
	case api.Get:
		need, can = "id", "ver"
	case api.Set:
		need, can = "id items", "ver remove"
	case api.Result:
		need, can = "id", "ver items"
	case api.Fault:
		need = "id reason"
	case api.Enabled:
		need = "token"
	case api.Ack:
		can = "h"
	case api.Resume, api.Resumed:
		need, can = "token", "h"
	case api.Enable, api.Ask, api.Failed, api.Active, api.Inactive:
	default:
		return false
	}
	for _, x := range strings.Fields(need) {
		if !has[x] {
			return false
		}
	}
	for x := range has {
		if !slices.Contains(strings.Fields(need+" "+can), x) {
			return false
		}
	}
	return !(has["type"] && has["show"]) && !(kind == api.Result && has["items"] && !has["ver"])
}

func TestWriteOfAllSetsOfParts(t *testing.T) {
	all := parts()
	for kind := -2; kind <= 20; kind++ {
		for set := range 1 << len(all) {
			s, has := api.Stanza{Kind: kind}, map[string]bool{}
			for i, p := range all {
				if set>>i&1 == 1 {
					p.give(&s)
					has[p.name] = true
				}
			}
			want := api.ErrArg
			if mayBe(kind, has) {
				want = api.OK
			}
			checkWrite(t, s, want)
			if len(s.Items) == 0 {
				s.Items = []api.Item{}
				checkWrite(t, s, want)
			}
		}
	}
	for _, kind := range []int{-1 << 63, -1 << 32, 1<<32 + 8, 1<<63 - 1} {
		checkWrite(t, api.Stanza{Kind: kind}, api.ErrArg)
	}
}

func TestWriteRefuses(t *testing.T) {
	set := func(i ...api.Item) api.Stanza { return api.Stanza{Kind: api.Set, Id: "1", Items: i} }
	remove := func(i ...api.Item) api.Stanza {
		return api.Stanza{Kind: api.Set, Id: "1", Remove: true, Items: i}
	}
	result := func(i ...api.Item) api.Stanza {
		return api.Stanza{Kind: api.Result, Id: "1", Ver: 1, Items: i}
	}
	presence := func(kind, from, to, show string) api.Stanza {
		return api.Stanza{Kind: api.Presence, Type: kind, From: from, To: to, Show: show}
	}
	bob := api.Item{User: "bob"}
	l := []api.Stanza{
		{},
		presence("x", "", "", ""), presence("away", "", "", ""), presence("available", "", "", ""), presence("Subscribe", "", "", ""), presence(" ", "", "", ""), presence("\xff", "", "", ""),
		presence("", "B", "", ""), presence("", "bob/", "", ""), presence("", "/bob", "", ""), presence("", "a/b/c", "", ""), presence("", user16+"x", "", ""), presence("", "", "a b", ""), presence("", "", "bob/", ""), presence("", "", "b/"+user16+"x", ""), presence("subscribe", "", "\x00", ""),
		presence("", "", "", "x"), presence("", "", "", "AWAY"), presence("", "", "", " "), presence("", "", "", "unavailable"), presence("unavailable", "", "", "away"), presence("subscribe", "ann", "bob", "xa"),
		set(), set(bob, bob), set(make([]api.Item, 17)...), remove(), remove(bob, bob), remove(api.Item{}),
		remove(api.Item{User: "bob", Sub: 1}), remove(api.Item{User: "bob", Sub: 3}), remove(api.Item{User: "bob", Sub: -1}), remove(api.Item{User: "bob", Sub: 4}),
		result(items(17)...), result(make([]api.Item, 100000)...), result(bob, api.Item{}), result(bob, api.Item{User: "B"}, bob),
		{Kind: api.Result, Id: "1", Ver: 1, Remove: true, Items: []api.Item{bob}}, {Kind: api.Result, Id: "1", Remove: true}, {Kind: api.Get, Id: "1", Remove: true}, {Kind: api.Get, Id: "1", Ver: 1, Items: []api.Item{bob}},
		{Kind: api.Result, Id: "1", Items: []api.Item{bob}}, {Kind: api.Presence, Items: []api.Item{{}}}, {Kind: api.Ask, H: 1}, {Kind: api.Ask, Items: make([]api.Item, 1)},
	}
	for _, i := range []api.Item{
		{}, {Name: "x"}, {User: "B"}, {User: "bob/pad"}, {User: "bob "}, {User: user16 + "x"}, {User: "\xff"}, {User: "bob", Name: word40 + "x"}, {User: "bob", Name: "\x00"},
		{User: "bob", Sub: -1}, {User: "bob", Sub: 4}, {User: "bob", Sub: 5}, {User: "bob", Sub: -1 << 63}, {User: "bob", Sub: 1<<63 - 1}, {User: "bob", Sub: 1 << 32}, {User: "bob", Sub: 1<<32 + 1},
	} {
		l = append(l, set(i), result(i), result(bob, i), result(i, bob))
	}
	for _, s := range l {
		checkWrite(t, s, api.ErrArg)
	}
}

// around answers e with one thing changed somewhere in it, for each of many changes.
func around(e api.Elem) []api.Elem {
	var l []api.Elem
	add := func(change func(x *api.Elem)) {
		x := copyOf(e)
		change(&x)
		l = append(l, x)
	}
	for _, text := range []string{"", "x", " ", "away", "\x00"} {
		add(func(x *api.Elem) { x.Text = text })
	}
	for _, name := range []string{"", "x", "r", "a", "presence", "iq", "iq get", "query", "item", "show", "error", "resumed", "resume", "enabled", "enable"} {
		add(func(x *api.Elem) { x.Name = name })
	}
	for i := range e.Attrs {
		add(func(x *api.Elem) { x.Attrs = slices.Delete(x.Attrs, i, i+1) })
		add(func(x *api.Elem) { x.Attrs = append(x.Attrs, x.Attrs[i]) })
		add(func(x *api.Elem) { x.Attrs = append(pairs(x.Attrs[i].Name, "other"), x.Attrs...) })
		add(func(x *api.Elem) { x.Attrs[i].Name = "X" })
		add(func(x *api.Elem) { x.Attrs = append(x.Attrs[i:], x.Attrs[:i]...) })
		for _, v := range []string{"", "0", "1", "x", "ann", "ann/pad", "Ann", "get", "set", "result", "error", "unavailable", "subscribe", "none", "to", "from", "both", "remove", "1000000", "1000001", "4294967295", "4294967296", "01", word40, word40 + "x", "\x00"} {
			add(func(x *api.Elem) { x.Attrs[i].Value = v })
		}
	}
	for _, a := range pairs("x", "1", "type", "get", "type", "subscribe", "id", "1", "from", "ann", "to", "bob", "ver", "2", "jid", "bob", "name", "B", "subscription", "both", "subscription", "remove", "ask", "subscribe", "h", "1", "previd", "x", "", "", "xmlns", "y") {
		add(func(x *api.Elem) { x.Attrs = append(x.Attrs, a) })
		add(func(x *api.Elem) { x.Attrs = append([]api.Attr{a}, x.Attrs...) })
	}
	for _, kid := range []api.Elem{{}, {Name: "x"}, {Name: "show", Text: "away"}, {Name: "query"}, {Name: "query", Attrs: pairs("ver", "1")}, {Name: "item", Attrs: pairs("jid", "bob")}, {Name: "error", Text: "x"}, {Name: "r"}} {
		add(func(x *api.Elem) { x.Kids = append(x.Kids, kid) })
		add(func(x *api.Elem) { x.Kids = append([]api.Elem{kid}, x.Kids...) })
		add(func(x *api.Elem) { x.Kids = []api.Elem{kid} })
	}
	for i := range e.Kids {
		add(func(x *api.Elem) { x.Kids = slices.Delete(x.Kids, i, i+1) })
		add(func(x *api.Elem) { x.Kids = append(x.Kids, copyOf(x.Kids[i])) })
		for _, kid := range around(e.Kids[i]) {
			add(func(x *api.Elem) { x.Kids[i] = kid })
		}
	}
	return l
}

func TestReadOfAllThatIsNearlyRight(t *testing.T) {
	for _, x := range rows() {
		e := parse(t, x.text, 1000)
		if !isPlain(e) {
			continue
		}
		for _, near := range around(e) {
			checkRead(t, near)
		}
	}
}

func TestReadOfAttributesInAnyRow(t *testing.T) {
	var each func(l []api.Attr, at int, f func([]api.Attr))
	each = func(l []api.Attr, at int, f func([]api.Attr)) {
		if at == len(l) {
			f(l)
		}
		for i := at; i < len(l); i++ {
			l[at], l[i] = l[i], l[at]
			each(l, at+1, f)
			l[at], l[i] = l[i], l[at]
		}
	}
	for _, x := range rows() {
		e := parse(t, x.text, 1000)
		each(slices.Clone(e.Attrs), 0, func(l []api.Attr) {
			checkReadAs(t, api.Elem{Name: e.Name, Attrs: l, Text: e.Text, Kids: e.Kids}, x.s)
		})
	}
	whole := pairs("jid", "bob", "name", "B", "subscription", "to", "ask", "subscribe")
	each(whole, 0, func(l []api.Attr) {
		e := api.Elem{Name: "iq", Attrs: pairs("id", "1", "type", "set"), Kids: []api.Elem{{Name: "query", Kids: []api.Elem{{Name: "item", Attrs: l}}}}}
		checkReadAs(t, e, api.Stanza{Kind: api.Set, Id: "1", Items: []api.Item{{User: "bob", Name: "B", Sub: 1, Asked: true}}})
	})
}

// anyElem answers an element out of what the table is made of, right or wrong, the same at each run.
func anyElem(from *rand.Rand, depth int) api.Elem {
	pick := func(l ...string) string { return l[from.Intn(len(l))] }
	e := api.Elem{Name: pick("presence", "iq", "iq", "iq", "a", "r", "resume", "enabled", "failed", "x")}
	if depth > 0 {
		e.Name = pick("show", "query", "query", "item", "item", "error", "x")
	}
	for range from.Intn(4) {
		e.Attrs = append(e.Attrs, api.Attr{
			Name:  pick("type", "type", "id", "id", "from", "to", "ver", "jid", "jid", "name", "subscription", "ask", "h", "previd"),
			Value: pick("get", "set", "result", "error", "subscribe", "1", "2", "ann", "bob", "to", "remove", "", "X y"),
		})
	}
	if from.Intn(4) == 0 {
		e.Text = pick("away", "x", "dnd", " ")
	}
	for depth < 4 && from.Intn(2) == 0 {
		e.Kids = append(e.Kids, anyElem(from, depth+1))
	}
	return e
}

func TestReadOfManyElements(t *testing.T) {
	from := rand.New(rand.NewSource(5))
	for range 100000 {
		checkRead(t, anyElem(from, 0))
	}
}

func TestReadOfElementsWithoutBounds(t *testing.T) {
	within := api.Elem{Name: "iq", Attrs: pairs("type", "result", "id", "1"), Kids: make([]api.Elem, 1)}
	within.Kids[0] = api.Elem{Name: "query", Attrs: pairs("ver", "1"), Kids: within.Kids}
	again := api.Elem{Name: "presence", Kids: make([]api.Elem, 1)}
	again.Kids[0] = api.Elem{Name: "show", Text: "away", Kids: again.Kids}
	item := api.Elem{Name: "item", Attrs: pairs("jid", "bob"), Kids: make([]api.Elem, 1)}
	item.Kids[0] = item
	for i, e := range []api.Elem{
		within, again,
		{Name: "iq", Attrs: pairs("type", "set", "id", "1"), Kids: []api.Elem{{Name: "query", Kids: []api.Elem{item}}}},
		{Name: "presence", Attrs: make([]api.Attr, 1000000)},
		{Name: "presence", Kids: make([]api.Elem, 1000000)},
		{Name: "a", Attrs: append(pairs("h", "1"), make([]api.Attr, 1000000)...)},
		{Name: "r", Text: strings.Repeat("x", 1<<24)},
		{Name: "enabled", Attrs: pairs("id", strings.Repeat("x", 1<<24))},
	} {
		if s, f := Read(e); f != api.ErrForm || !reflect.DeepEqual(s, api.Stanza{}) {
			t.Errorf("%d: %+v %d", i, s, f)
		}
	}
}

func TestSameOfEachPart(t *testing.T) {
	whole := func() api.Stanza {
		return api.Stanza{Kind: 3, Type: "a", Id: "b", From: "c", To: "d", Show: "e", Token: "f", Reason: "g", H: 4, Ver: 5, Remove: true, Items: []api.Item{{User: "h", Name: "i", Sub: 1, Asked: true}, {User: "j"}}}
	}
	if !Same(whole(), whole()) || !Same(api.Stanza{}, api.Stanza{}) || Same(whole(), api.Stanza{}) || Same(api.Stanza{}, whole()) {
		t.Error("the same")
	}
	differ := func(what string, x api.Stanza) {
		if Same(x, whole()) || Same(whole(), x) {
			t.Errorf("%s: %+v is the same", what, x)
		}
		if !Same(x, x) {
			t.Errorf("%s: %+v is not itself", what, x)
		}
	}
	for i := range reflect.TypeFor[api.Stanza]().NumField() {
		x := whole()
		reflect.ValueOf(&x).Elem().Field(i).SetZero()
		differ(reflect.TypeFor[api.Stanza]().Field(i).Name, x)
	}
	for at := range 2 {
		for i := range reflect.TypeFor[api.Item]().NumField() {
			x := whole()
			f := reflect.ValueOf(&x.Items[at]).Elem().Field(i)
			switch f.Kind() {
			case reflect.String:
				f.SetString("other")
			case reflect.Int:
				f.SetInt(9)
			case reflect.Bool:
				f.SetBool(!f.Bool())
			}
			differ(reflect.TypeFor[api.Item]().Field(i).Name, x)
		}
	}
	for what, l := range map[string][]api.Item{"none": nil, "empty": {}, "fewer": whole().Items[:1], "more": append(whole().Items, api.Item{}), "turned": {whole().Items[1], whole().Items[0]}} {
		x := whole()
		x.Items = l
		differ(what, x)
	}
	for _, s := range []api.Stanza{{}, {Kind: api.Get, Id: "1"}, {Kind: 77, H: 3}} {
		a, b := s, s
		a.Items, b.Items = []api.Item{}, make([]api.Item, 0, 5)
		if !Same(s, a) || !Same(a, s) || !Same(a, b) {
			t.Errorf("nil and empty of %+v differ", s)
		}
	}
}

func TestAnswersAreOfNewMemory(t *testing.T) {
	e := parse(t, `<iq type="result" id="1"><query ver="2"><item jid="bob" name="B"/><item jid="cy"/></query></iq>`, 1000)
	kept := flat(e)
	s, _ := Read(e)
	s.Items[0].User = "changed"
	_ = append(s.Items[:1], api.Item{User: "changed"})
	if flat(e) != kept {
		t.Error("read", flat(e))
	}
	first, _ := Read(e)
	second, _ := Read(e)
	first.Items[1].Name = "changed"
	if second.Items[1].Name != "" {
		t.Error("read twice", second)
	}
	for _, x := range rows() {
		one, _ := Write(x.s)
		two, _ := Write(x.s)
		spoil(&one)
		if text, _ := trees.Write(two); text != x.text {
			t.Error("written twice", text)
		}
		if three, _ := Write(x.s); flat(three) != flat(two) {
			t.Error("written thrice", flat(three))
		}
	}
}

// spoil changes all that e reaches, and what may lie behind its lists.
func spoil(e *api.Elem) {
	for i := range e.Kids {
		spoil(&e.Kids[i])
		e.Kids[i].Text = "spoilt"
	}
	for i := range e.Attrs {
		e.Attrs[i].Value = "spoilt"
	}
	_ = append(e.Attrs, api.Attr{Name: "spoilt"})
	_ = append(e.Kids, api.Elem{Name: "spoilt"})
}
