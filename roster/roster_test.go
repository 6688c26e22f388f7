package roster

import (
	"cmp"
	"math"
	"reflect"
	"slices"
	"strconv"
	"strings"
	"testing"

	"tidewater/api"
	"tidewater/pact"
)

// eight are as many users as may be, no two of them beginning alike.
var eight = []string{"ann", "bob", "cy", "dan", "eve", "fay", "gus", "hal"}

// noUsers are texts that are no user of any book here; some of them are no user at all.
var noUsers = []string{"", "zed", "an", "annn", "Ann", "ANN", "ann ", " ann", "ann/d1", "ann/", "/", "a-b", "a:b", "anñ", "ann\x00", "\x00", "\xff", "seventeenletters7", strings.Repeat("a", 1<<16)}

// noActs are numbers that are no act's.
var noActs = []int{0, 5, -1, math.MinInt, math.MaxInt, -2, -3, -4, 6, 7, 8, 255, 256, 257, 259, 260, 1 << 32, 1<<32 + 1, 1<<32 + 3, math.MinInt + 1, math.MaxInt - 1}

// names that may be, and that may not.
var (
	rightNames = []string{"", "a", " ", "Annie", "ann", "<b>&\"'", "\t\n\r", "é€😀", "\U0010ffff", strings.Repeat("x", 39), strings.Repeat("x", 40), strings.Repeat("é", 20), strings.Repeat("😀", 10), strings.Repeat("x", 38) + "é"}
	wrongNames = []string{"\x00", "a\x00", "\x08", "\x0b", "\x1f", "\xff", "\x80", "a\xc3", "\xc0\x80", "\xed\xa0\x80", "\ufffe", "\uffff", "\xf4\x90\x80\x80", strings.Repeat("x", 41), strings.Repeat("x", 39) + "é", strings.Repeat("x", 40) + "\x00", strings.Repeat("é", 21), strings.Repeat("x", 1<<16)}
)

// two are a user and another one, that it sees, asks or names.
type two struct{ user, other string }

// model tells the chapter's words again: not by sides, but by who sees whom and who has asked whom.
type model struct {
	users       []string
	sees, asked map[two]bool
	names       map[two]string
	versions    map[string]int
}

func newModel(users []string) *model {
	m := &model{slices.Clone(users), map[two]bool{}, map[two]bool{}, map[two]string{}, map[string]int{}}
	slices.Sort(m.users)
	for _, user := range users {
		m.versions[user] = 1
	}
	return m
}

func (m *model) has(user string) bool { return m.versions[user] > 0 }

func (m *model) side(user, other string) pact.Side {
	s := pact.Side{Asked: m.asked[two{user, other}], Wanted: m.asked[two{other, user}]}
	if m.sees[two{user, other}] {
		s.Sub++
	}
	if m.sees[two{other, user}] {
		s.Sub += 2
	}
	return s
}

func (m *model) items(user string) []api.Item {
	var l []api.Item
	for ends, name := range m.names {
		if ends.user == user {
			s := m.side(user, ends.other)
			l = append(l, api.Item{User: ends.other, Name: name, Sub: s.Sub, Asked: s.Asked})
		}
	}
	slices.SortFunc(l, func(a, b api.Item) int { return cmp.Compare(a.User, b.User) })
	return l
}

func (m *model) audience(user string) []string {
	var l []string
	for _, other := range m.users {
		if m.sees[two{other, user}] {
			l = append(l, other)
		}
	}
	return l
}

func (m *model) watched(user string) []string {
	var l []string
	for _, other := range m.users {
		if m.sees[two{user, other}] {
			l = append(l, other)
		}
	}
	return l
}

func (m *model) mayBecome(user, contact string) bool {
	if _, there := m.names[two{user, contact}]; there {
		return true
	}
	return len(m.items(user)) < 6
}

// acts does an act, and answers whether it is passed on.
func (m *model) acts(user, contact string, act int) bool {
	own, others := two{user, contact}, two{contact, user}
	passedOn := false
	switch act {
	case 1:
		passedOn = !m.sees[own] && !m.asked[own]
		m.asked[own] = m.asked[own] || passedOn
	case 2:
		passedOn = m.asked[others]
		m.sees[others] = m.sees[others] || passedOn
		m.asked[others] = false
	case 3:
		passedOn = m.sees[own] || m.asked[own]
		m.sees[own], m.asked[own] = false, false
	case 4:
		passedOn = m.sees[others] || m.asked[others]
		m.sees[others], m.asked[others] = false, false
	}
	return passedOn
}

// call is a call that may change something: an act by its number, or a name that is given, or a removal.
type call struct {
	what          string // act, name, remove
	user, contact string
	act           int
	name          string
}

func (c call) String() string {
	user, contact := strconv.Quote(c.user), strconv.Quote(c.contact)
	switch c.what {
	case "act":
		return user + " " + strconv.Itoa(c.act) + " " + contact
	case "name":
		return user + " names " + contact + " " + strconv.Quote(c.name)
	}
	return user + " removes " + contact
}

func path(row []call) string {
	var l []string
	for _, c := range row {
		l = append(l, c.String())
	}
	return strings.Join(l, "; ")
}

func act(user, contact string, n int) call {
	return call{what: "act", user: user, contact: contact, act: n}
}

func name(user, contact, s string) call {
	return call{what: "name", user: user, contact: contact, name: s}
}

func remove(user, contact string) call { return call{what: "remove", user: user, contact: contact} }

func (c call) of(b *Book) (Change, api.Errno) {
	switch c.what {
	case "act":
		return b.Act(c.user, c.contact, c.act)
	case "name":
		return b.Name(c.user, c.contact, c.name)
	}
	return b.Remove(c.user, c.contact)
}

func (c call) refused(m *model) api.Errno {
	_, there := m.names[two{c.user, c.contact}]
	switch {
	case !m.has(c.user) || !m.has(c.contact), c.what == "remove" && !there:
		return api.ErrNone
	case c.user == c.contact, c.what == "act" && (c.act < 1 || c.act > 4), c.what == "name" && !mayBeTold(c.name):
		return api.ErrArg
	case (c.what == "name" || c.what == "act" && c.act == 1) && !m.mayBecome(c.user, c.contact):
		return api.ErrFull
	}
	return api.OK
}

// mayBeTold looks the name up in the lists of this file, all whose names are in one of them.
func mayBeTold(name string) bool {
	return !slices.Contains(wrongNames, name)
}

func (c call) ofModel(m *model) (Change, api.Errno) {
	if e := c.refused(m); e != api.OK {
		return Change{}, e
	}
	ahead := map[string][]api.Item{}
	for _, user := range m.users {
		ahead[user] = m.items(user)
	}
	ends, acts := two{c.user, c.contact}, []int{c.act}
	switch c.what {
	case "name":
		m.names[ends] = c.name
		acts = nil
	case "remove":
		delete(m.names, ends)
		acts = []int{3, 4}
	case "act":
		if c.act == 1 {
			m.names[ends] += "" // a contact now, whose name stays
		}
	}
	var change Change
	for _, n := range acts {
		if m.acts(c.user, c.contact, n) {
			change.Told = append(change.Told, Told{To: c.contact, From: c.user, Act: n})
		}
	}
	for _, user := range m.users {
		if !slices.Equal(ahead[user], m.items(user)) {
			m.versions[user]++
			change.Pushed = append(change.Pushed, user)
		}
	}
	return change, api.OK
}

// both has a call done with the book and the model, and fails if they answer otherwise or aren't the same behind it.
type both struct {
	b *Book
	m *model
}

func newBoth(users ...string) both { return both{New(users), newModel(users)} }

// behind answers a book and a model behind a row of calls that were looked at elsewhere.
func behind(users []string, row []call) both {
	b := newBoth(users...)
	for _, c := range row {
		c.of(b.b)
		c.ofModel(b.m)
	}
	return b
}

func (b both) do(t *testing.T, c call, path string) {
	t.Helper()
	got, e := c.of(b.b)
	want, wantE := c.ofModel(b.m)
	if !slices.Equal(got.Pushed, want.Pushed) || !slices.Equal(got.Told, want.Told) || e != wantE {
		t.Fatalf("%s; %s: %+v, error %d, want %+v, error %d", path, c, got, e, want, wantE)
	}
	b.same(t, path+"; "+c.String())
}

// same asks by all calls that change nothing, and holds P12.2, of all users.
func (b both) same(t *testing.T, path string) {
	t.Helper()
	if l := b.b.Users(); !slices.Equal(l, b.m.users) {
		t.Fatalf("%s: users %q, want %q", path, l, b.m.users)
	}
	for _, user := range b.m.users {
		l, version, e := b.b.Items(user)
		if want := b.m.items(user); !slices.Equal(l, want) || version != b.m.versions[user] || e != api.OK {
			t.Fatalf("%s: items of %s: %+v, %d, error %d, want %+v, %d", path, user, l, version, e, want, b.m.versions[user])
		}
		if l, want := b.b.Audience(user), b.m.audience(user); !slices.Equal(l, want) {
			t.Fatalf("%s: audience of %s: %q, want %q", path, user, l, want)
		}
		if l, want := b.b.Watched(user), b.m.watched(user); !slices.Equal(l, want) {
			t.Fatalf("%s: watched by %s: %q, want %q", path, user, l, want)
		}
		for _, other := range b.m.users {
			if s, want := b.b.Side(user, other), b.m.side(user, other); s != want {
				t.Fatalf("%s: side of %s towards %s: %+v, want %+v", path, user, other, s, want)
			}
		}
	}
	b.fits(t, path)
}

// fits asks the first two parts of P12.2 of the book alone.
func (b both) fits(t *testing.T, path string) {
	t.Helper()
	for _, user := range b.b.Users() {
		for _, other := range b.b.Users() {
			own, others := b.b.Side(user, other), b.b.Side(other, user)
			if !pact.Right(own) || !pact.Fit(own, others) {
				t.Fatalf("%s: %s and %s: %+v and %+v", path, user, other, own, others)
			}
			watches, hears := slices.Contains(b.b.Watched(user), other), slices.Contains(b.b.Audience(other), user)
			if watches != hears || watches != pact.Sees(own) || hears != pact.Seen(others) {
				t.Fatalf("%s: %s watches %s %v, is in its audience %v: %+v and %+v", path, user, other, watches, hears, own, others)
			}
		}
	}
}

// drawn answers numbers from 0 up to below n, the same at each run.
func drawn(seed uint64) func(n int) int {
	return func(n int) int {
		seed = seed*6364136223846793005 + 1442695040888963407
		return int((seed >> 33) % uint64(n))
	}
}

// one answers a text of the list, or none of them.
func one(draw func(n int) int, l []string) string { return l[draw(len(l))] }

// done answers a book of the eight behind these calls, all of which must be right.
func done(t *testing.T, row ...call) *Book {
	t.Helper()
	b := New(eight)
	for _, c := range row {
		if _, e := c.of(b); e != api.OK {
			t.Fatalf("%s: %s: error %d", path(row), c, e)
		}
	}
	return b
}

// wantChange fails if a call answers otherwise. Pushed are users with blanks between; told are acts, from the call's user to its contact.
func wantChange(t *testing.T, b *Book, c call, pushed string, told ...int) {
	t.Helper()
	var want []Told
	for _, n := range told {
		want = append(want, Told{To: c.contact, From: c.user, Act: n})
	}
	got, e := c.of(b)
	if !slices.Equal(got.Pushed, strings.Fields(pushed)) || !slices.Equal(got.Told, want) || e != api.OK {
		t.Errorf("%s: %+v, error %d, want %q, %+v", c, got, e, pushed, want)
	}
}

func wantError(t *testing.T, b *Book, c call, want api.Errno) {
	t.Helper()
	if got, e := c.of(b); len(got.Pushed) != 0 || len(got.Told) != 0 || e != want {
		t.Errorf("%s: %+v, error %d, want %d", c, got, e, want)
	}
}

func wantItems(t *testing.T, b *Book, user string, version int, want ...api.Item) {
	t.Helper()
	if l, n, e := b.Items(user); !slices.Equal(l, want) || n != version || e != api.OK {
		t.Errorf("items of %s: %+v, %d, error %d, want %+v, %d", user, l, n, e, want, version)
	}
}

func wantUsers(t *testing.T, got []string, want ...string) {
	t.Helper()
	if !slices.Equal(got, want) {
		t.Errorf("%q, want %q", got, want)
	}
}

func TestTheChaptersExample(t *testing.T) {
	b := New([]string{"ann", "bob"})
	wantChange(t, b, act("ann", "bob", 1), "ann", 1)
	wantItems(t, b, "ann", 2, api.Item{User: "bob", Asked: true})
	wantItems(t, b, "bob", 1)
}

// The fourth of the examples of the whole.
func TestAnnAsksBobGrants(t *testing.T) {
	b := New([]string{"ann", "bob"})
	wantChange(t, b, act("ann", "bob", 1), "ann", 1)
	wantChange(t, b, act("bob", "ann", 2), "ann", 2)
	wantItems(t, b, "ann", 3, api.Item{User: "bob", Sub: api.SubTo})
	wantItems(t, b, "bob", 1)
	wantUsers(t, b.Audience("bob"), "ann")
	wantUsers(t, b.Watched("ann"), "bob")
	wantUsers(t, b.Audience("ann"))
	wantUsers(t, b.Watched("bob"))
}

func TestNewOfNoneToEightUsers(t *testing.T) {
	for _, none := range [][]string{nil, {}} {
		b := New(none)
		if b == nil {
			t.Fatal("nil of none")
		}
		wantUsers(t, b.Users())
		wantError(t, b, act("ann", "bob", 1), api.ErrNone)
	}
	for n := 1; n <= 8; n++ {
		b := newBoth(eight[:n]...)
		if b.b == nil {
			t.Fatalf("nil of %d", n)
		}
		b.same(t, "new")
		for _, user := range eight {
			l, version, e := b.b.Items(user)
			if slices.Contains(eight[:n], user) {
				if len(l) != 0 || version != 1 || e != api.OK {
					t.Errorf("%s of %d: %+v, %d, error %d", user, n, l, version, e)
				}
			} else if len(l) != 0 || version != 0 || e != api.ErrNone {
				t.Errorf("%s of %d: %+v, %d, error %d", user, n, l, version, e)
			}
		}
	}
}

func TestNewOfTooMany(t *testing.T) {
	nine := append(slices.Clone(eight), "ivy")
	for _, l := range [][]string{nine, append(slices.Clone(eight), "ann"), append(slices.Clone(eight), ""), make([]string, 9), make([]string, 1<<16)} {
		if New(l) != nil {
			t.Errorf("a book of %d users", len(l))
		}
	}
	for without := range nine {
		l := slices.Delete(slices.Clone(nine), without, without+1)
		if b := New(l); b == nil || !slices.Equal(b.Users(), l) {
			t.Errorf("no book of %q", l)
		}
	}
}

func TestNewOfWhatIsNoUser(t *testing.T) {
	for _, wrong := range noUsers {
		if wrong == "zed" || wrong == "an" || wrong == "annn" {
			continue
		}
		if New([]string{wrong}) != nil {
			t.Errorf("a book of %q", wrong)
		}
		for at := range 8 {
			l := slices.Clone(eight)
			l[at] = wrong
			if New(l) != nil {
				t.Errorf("a book of %q", l)
			}
		}
	}
	for _, right := range []string{"a", "z", "0", "9", "007", "sixteenletters16", "annbobcydanevefa", "0000000000000000"} {
		if b := New([]string{right}); b == nil || !slices.Equal(b.Users(), []string{right}) {
			t.Errorf("no book of %q", right)
		}
	}
}

func TestNewOfOneThatIsThereTwice(t *testing.T) {
	if New([]string{"a", "a"}) != nil || New([]string{"a", "a", "a"}) != nil {
		t.Error("a book of a, a")
	}
	for from := range 8 {
		for to := range 8 {
			if from == to {
				continue
			}
			l := slices.Clone(eight)
			l[to] = l[from]
			if New(l) != nil {
				t.Errorf("a book of %q", l)
			}
		}
	}
}

func TestUsersAreInOrder(t *testing.T) {
	for _, l := range [][]string{
		{"cy", "ann", "bob"},
		{"b", "aa", "a", "ab", "0", "a0", "9", "z"},
		{"annie", "ann", "an", "anna", "ann1", "a", "b", "ann0"},
		{"10", "9", "1", "2", "100"},
	} {
		want := slices.Clone(l)
		slices.SortFunc(want, strings.Compare)
		for turn := range l {
			turned := slices.Concat(l[turn:], l[:turn])
			wantUsers(t, New(turned).Users(), want...)
			slices.Reverse(turned)
			wantUsers(t, New(turned).Users(), want...)
		}
	}
	wantUsers(t, New([]string{"b", "aa", "a", "ab", "0", "a0", "9", "z"}).Users(), "0", "9", "a", "a0", "aa", "ab", "b", "z")
}

// Byte by byte, a beginning ahead of what goes on, in whatever row they became contacts.
func TestItemsAreInOrder(t *testing.T) {
	others := []string{"ab", "a0", "aaa", "aa", "z", "a"}
	want := []string{"a", "a0", "aa", "aaa", "ab", "z"}
	for turn := range others {
		b := New(append([]string{"me"}, others...))
		for i, other := range slices.Concat(others[turn:], others[:turn]) {
			c := name("me", other, "the "+other)
			if i%2 == 1 {
				c = act("me", other, 1)
			}
			if _, e := c.of(b); e != api.OK {
				t.Fatal(c, e)
			}
		}
		l, version, _ := b.Items("me")
		var users []string
		for _, item := range l {
			users = append(users, item.User)
		}
		wantUsers(t, users, want...)
		if version != 7 {
			t.Errorf("version %d", version)
		}
	}
}

func TestItemsOfNoUserOfTheBook(t *testing.T) {
	b := done(t, act("ann", "bob", 1), act("bob", "ann", 2))
	for _, user := range append([]string{"ivy"}, noUsers...) {
		if l, n, e := b.Items(user); len(l) != 0 || n != 0 || e != api.ErrNone {
			t.Errorf("items of %q: %+v, %d, error %d", user, l, n, e)
		}
	}
}

func TestNamesThatMayBe(t *testing.T) {
	for _, s := range rightNames {
		b := New(eight)
		wantChange(t, b, name("ann", "bob", s), "ann")
		wantItems(t, b, "ann", 2, api.Item{User: "bob", Name: s})
		wantItems(t, b, "bob", 1)
		wantChange(t, b, name("ann", "bob", "another"), "ann")
		wantItems(t, b, "ann", 3, api.Item{User: "bob", Name: "another"})
	}
}

func TestNamesThatMayNotBe(t *testing.T) {
	for _, s := range wrongNames {
		b := New(eight)
		wantError(t, b, name("ann", "bob", s), api.ErrArg)
		wantItems(t, b, "ann", 1)
		wantChange(t, b, name("ann", "bob", "Bobby"), "ann")
		wantError(t, b, name("ann", "bob", s), api.ErrArg)
		wantItems(t, b, "ann", 2, api.Item{User: "bob", Name: "Bobby"})
	}
}

// Of all first and last bytes, those below 32 and none but three of those may be.
func TestNamesOfEachByte(t *testing.T) {
	for n := range 256 {
		s := string([]byte{'a', byte(n)})
		want := api.OK
		if n >= 128 || n < 32 && n != 9 && n != 10 && n != 13 {
			want = api.ErrArg
		}
		if _, e := New(eight).Name("ann", "bob", s); e != want {
			t.Errorf("%q: error %d, want %d", s, e, want)
		}
	}
}

func TestANameThatIsTheSameAsBefore(t *testing.T) {
	for _, s := range rightNames {
		b := New(eight)
		wantChange(t, b, name("ann", "bob", s), "ann")
		wantChange(t, b, name("ann", "bob", s), "")
		wantItems(t, b, "ann", 2, api.Item{User: "bob", Name: s})
	}
	b := New(eight)
	wantChange(t, b, act("ann", "bob", 1), "ann", 1)
	wantChange(t, b, name("ann", "bob", ""), "")
	wantItems(t, b, "ann", 2, api.Item{User: "bob", Asked: true})
	wantChange(t, b, name("ann", "bob", "B"), "ann")
	wantChange(t, b, name("ann", "bob", "b"), "ann")
	wantChange(t, b, name("ann", "bob", ""), "ann")
	wantItems(t, b, "ann", 5, api.Item{User: "bob", Asked: true})
}

// A name is the user's own, and each contact's alone.
func TestNamesAreApart(t *testing.T) {
	b := done(t, name("ann", "bob", "x"), name("ann", "cy", "x"), name("bob", "ann", "y"))
	wantItems(t, b, "ann", 3, api.Item{User: "bob", Name: "x"}, api.Item{User: "cy", Name: "x"})
	wantItems(t, b, "bob", 2, api.Item{User: "ann", Name: "y"})
	wantChange(t, b, name("ann", "cy", "z"), "ann")
	wantItems(t, b, "ann", 4, api.Item{User: "bob", Name: "x"}, api.Item{User: "cy", Name: "z"})
	wantItems(t, b, "bob", 2, api.Item{User: "ann", Name: "y"})
	wantItems(t, b, "cy", 1)
}

func TestANameStaysBehindActs(t *testing.T) {
	b := done(t, name("ann", "bob", "Bobby"))
	wantChange(t, b, act("ann", "bob", 1), "ann", 1)
	wantItems(t, b, "ann", 3, api.Item{User: "bob", Name: "Bobby", Asked: true})
	wantChange(t, b, act("bob", "ann", 2), "ann", 2)
	wantItems(t, b, "ann", 4, api.Item{User: "bob", Name: "Bobby", Sub: api.SubTo})
	wantChange(t, b, act("ann", "bob", 1), "")
	wantChange(t, b, act("ann", "bob", 3), "ann", 3)
	wantItems(t, b, "ann", 5, api.Item{User: "bob", Name: "Bobby"})
}

// six are rows of calls by which ann has six contacts, all but hal: by names, by asks, and by both.
func six() [][]call {
	var names, asks, mixed []call
	for i, other := range eight[1:7] {
		names = append(names, name("ann", other, "n"))
		asks = append(asks, act("ann", other, 1))
		mixed = append(mixed, []call{name("ann", other, ""), act("ann", other, 1)}[i%2])
	}
	return [][]call{names, asks, mixed}
}

func TestSixContactsAndASeventh(t *testing.T) {
	for _, row := range six() {
		for _, seventh := range []call{name("ann", "hal", "n"), name("ann", "hal", ""), act("ann", "hal", 1)} {
			b := done(t, row...)
			was, version, _ := b.Items("ann")
			if len(was) != 6 || version != 7 {
				t.Fatalf("%s: %+v, %d", path(row), was, version)
			}
			wantError(t, b, seventh, api.ErrFull)
			wantItems(t, b, "ann", 7, was...)
			if s := b.Side("hal", "ann"); s != (pact.Side{}) || b.Side("ann", "hal") != s {
				t.Errorf("%s: %+v", seventh, s)
			}
			// What the other one does needs no place of ann's, and takes none.
			wantChange(t, b, act("hal", "ann", 1), "hal", 1)
			wantError(t, b, seventh, api.ErrFull)
			wantChange(t, b, act("ann", "hal", 2), "hal", 2)
			wantError(t, b, seventh, api.ErrFull)
			wantChange(t, b, act("ann", "hal", 4), "hal", 4)
			wantChange(t, b, act("ann", "hal", 3), "")
			wantItems(t, b, "ann", 7, was...)
			// One that is a contact may be named and asked still.
			wantChange(t, b, name("ann", "bob", "again"), "ann")
			if _, e := b.Act("ann", "bob", 1); e != api.OK {
				t.Errorf("bob is asked again: %d", e)
			}
			// And one that goes makes place for one.
			if _, e := b.Remove("ann", "gus"); e != api.OK {
				t.Errorf("remove gus: %d", e)
			}
			if _, e := seventh.of(b); e != api.OK {
				t.Errorf("%s behind one that went: %d", seventh, e)
			}
			wantError(t, b, name("ann", "gus", "n"), api.ErrFull)
			wantError(t, b, act("ann", "gus", 1), api.ErrFull)
		}
	}
}

// Each user has six places of its own, and up to the sixth all become contacts.
func TestPlacesAreEachUsersOwn(t *testing.T) {
	b := newBoth(eight...)
	for i := range 8 {
		for step := 1; step <= 7; step++ {
			user, other := eight[i], eight[(i+step)%8]
			c := act(user, other, 1)
			if step%2 == i%2 {
				c = name(user, other, "n")
			}
			want := api.OK
			if step == 7 {
				want = api.ErrFull
			}
			if e := c.refused(b.m); e != want {
				t.Errorf("%s: %d, want %d", c, e, want)
			}
			b.do(t, c, "of "+user)
		}
	}
}

// grants makes a row by which the user sees the other one.
func grants(user, other string) []call { return []call{act(user, other, 1), act(other, user, 2)} }

// Each act at each pair of sides that may be come to: what is told and who is pushed; the other one has no contact, or has one, too.
func TestEachActAtEachSide(t *testing.T) {
	asks, wanted := act("ann", "bob", 1), act("bob", "ann", 1)
	sees, seen := grants("ann", "bob"), grants("bob", "ann")
	type comes struct {
		pushed string
		told   []int
	}
	none := comes{"", nil}
	for _, x := range []struct {
		what string
		row  []call
		acts [4]comes
	}{
		{"nothing", nil, [4]comes{{"ann", []int{1}}, none, none, none}},
		{"named", []call{name("ann", "bob", "B")}, [4]comes{{"ann", []int{1}}, none, none, none}},
		{"both are named", []call{name("ann", "bob", "B"), name("bob", "ann", "A")}, [4]comes{{"ann", []int{1}}, none, none, none}},
		{"asked", []call{asks}, [4]comes{none, none, {"ann", []int{3}}, none}},
		{"wanted", []call{wanted}, [4]comes{{"ann", []int{1}}, {"bob", []int{2}}, none, {"bob", []int{4}}}},
		{"asked and wanted", []call{asks, wanted}, [4]comes{none, {"ann bob", []int{2}}, {"ann", []int{3}}, {"bob", []int{4}}}},
		{"sees", sees, [4]comes{none, none, {"ann", []int{3}}, none}},
		{"sees one that has it as a contact", append([]call{name("bob", "ann", "A")}, sees...), [4]comes{none, none, {"ann bob", []int{3}}, none}},
		{"seen", seen, [4]comes{{"ann", []int{1}}, none, none, {"bob", []int{4}}}},
		{"seen by a contact", append([]call{name("ann", "bob", "B")}, seen...), [4]comes{{"ann", []int{1}}, none, none, {"ann bob", []int{4}}}},
		{"sees and wanted", append(slices.Clone(sees), wanted), [4]comes{none, {"ann bob", []int{2}}, {"ann bob", []int{3}}, {"bob", []int{4}}}},
		{"seen and asked", append(slices.Clone(seen), asks), [4]comes{none, none, {"ann", []int{3}}, {"ann bob", []int{4}}}},
		{"both see", slices.Concat(sees, seen), [4]comes{none, none, {"ann bob", []int{3}}, {"ann bob", []int{4}}}},
	} {
		for i, want := range x.acts {
			b := done(t, x.row...)
			n, m := versionOf(b, "ann"), versionOf(b, "bob")
			t.Run(x.what, func(t *testing.T) { wantChange(t, b, act("ann", "bob", i+1), want.pushed, want.told...) })
			if strings.Contains(want.pushed, "ann") {
				n++
			}
			if strings.Contains(want.pushed, "bob") {
				m++
			}
			if versionOf(b, "ann") != n || versionOf(b, "bob") != m || versionOf(b, "cy") != 1 {
				t.Errorf("%s, act %d: versions %d, %d, want %d, %d", x.what, i+1, versionOf(b, "ann"), versionOf(b, "bob"), n, m)
			}
		}
	}
}

func versionOf(b *Book, user string) int {
	_, n, _ := b.Items(user)
	return n
}

// Pushed are in order, whoever acts.
func TestPushedAreInOrder(t *testing.T) {
	for _, x := range [][2]string{{"ann", "bob"}, {"bob", "ann"}, {"hal", "cy"}} {
		b := done(t, slices.Concat(grants(x[0], x[1]), grants(x[1], x[0]))...)
		c, e := b.Act(x[0], x[1], 3)
		if want := []string{min(x[0], x[1]), max(x[0], x[1])}; !slices.Equal(c.Pushed, want) || e != api.OK {
			t.Errorf("%q: %+v, error %d", x, c, e)
		}
	}
}

// An ask of one that is seen already is echoed, that is: it isn't told, and nothing changes.
func TestAnAskThatIsEchoed(t *testing.T) {
	b := done(t, grants("ann", "bob")...)
	wantChange(t, b, act("ann", "bob", 1), "")
	wantItems(t, b, "ann", 3, api.Item{User: "bob", Sub: api.SubTo})
	if s, o := b.Side("ann", "bob"), b.Side("bob", "ann"); s != (pact.Side{Sub: api.SubTo}) || o != (pact.Side{Sub: api.SubFrom}) {
		t.Errorf("%+v, %+v", s, o)
	}
}

// An ask makes a contact; no other act does.
func TestWhichActsMakeAContact(t *testing.T) {
	for n := 1; n <= 4; n++ {
		for _, row := range [][]call{nil, {act("bob", "ann", 1)}, grants("bob", "ann")} {
			b := done(t, row...)
			if _, e := b.Act("ann", "bob", n); e != api.OK {
				t.Errorf("act %d: error %d", n, e)
			}
			l, _, _ := b.Items("ann")
			if len(l) != 0 != (n == 1) {
				t.Errorf("%s, then act %d: %+v", path(row), n, l)
			}
		}
	}
}

// One that has left, or was refused, is a contact still.
func TestAContactStaysOneBehindActs(t *testing.T) {
	b := done(t, grants("ann", "bob")...)
	wantChange(t, b, act("bob", "ann", 4), "ann", 4)
	wantItems(t, b, "ann", 4, api.Item{User: "bob"})
	wantChange(t, b, act("ann", "bob", 1), "ann", 1)
	wantChange(t, b, act("ann", "bob", 3), "ann", 3)
	wantItems(t, b, "ann", 6, api.Item{User: "bob"})
}

func TestActsThatAreNone(t *testing.T) {
	for _, row := range [][]call{nil, {act("ann", "bob", 1)}, slices.Concat(grants("ann", "bob"), grants("bob", "ann")), six()[0]} {
		b := behind(eight, row)
		for _, n := range noActs {
			for _, other := range []string{"bob", "hal", "ann"} {
				wantError(t, b.b, act("ann", other, n), api.ErrArg)
				b.do(t, act("ann", other, n), path(row))
			}
		}
	}
}

func TestBothAreOne(t *testing.T) {
	b := newBoth(eight...)
	for _, user := range eight {
		for n := 1; n <= 4; n++ {
			wantError(t, b.b, act(user, user, n), api.ErrArg)
		}
		for _, s := range rightNames {
			wantError(t, b.b, name(user, user, s), api.ErrArg)
		}
		wantError(t, b.b, remove(user, user), api.ErrNone)
	}
	b.same(t, "both are one")
}

func TestOneIsNoUserOfTheBook(t *testing.T) {
	b := behind(eight[:3], grants("ann", "bob"))
	for _, wrong := range append([]string{"hal"}, noUsers...) {
		for _, ends := range []two{{"ann", wrong}, {wrong, "ann"}, {wrong, wrong}, {wrong, "zed"}} {
			for n := 1; n <= 4; n++ {
				wantError(t, b.b, act(ends.user, ends.other, n), api.ErrNone)
			}
			wantError(t, b.b, name(ends.user, ends.other, ""), api.ErrNone)
			wantError(t, b.b, name(ends.user, ends.other, "n"), api.ErrNone)
			wantError(t, b.b, remove(ends.user, ends.other), api.ErrNone)
			if s := b.b.Side(ends.user, ends.other); s != (pact.Side{}) {
				t.Errorf("side %+v: %+v", ends, s)
			}
		}
		wantUsers(t, b.b.Audience(wrong))
		wantUsers(t, b.b.Watched(wrong))
	}
	b.same(t, "no user")
}

// The answer is the error that the chapter names first.
func TestWhereSeveralErrorsApply(t *testing.T) {
	b := behind(eight, six()[2])
	for _, x := range []struct {
		c    call
		want api.Errno
	}{
		{act("zed", "zed", 1), api.ErrNone},
		{act("zed", "zed", 0), api.ErrNone},
		{act("zed", "ann", 5), api.ErrNone},
		{act("ann", "zed", -1), api.ErrNone},
		{act("ann", "zed", 1), api.ErrNone}, // there would be no place either
		{act("ann", "ann", 1), api.ErrArg},  // there would be no place either
		{act("ann", "ann", 9), api.ErrArg},
		{act("ann", "hal", 5), api.ErrArg},
		{act("ann", "hal", 1), api.ErrFull},
		{name("zed", "zed", "\x00"), api.ErrNone},
		{name("ann", "zed", "\x00"), api.ErrNone},
		{name("zed", "ann", "n"), api.ErrNone},
		{name("ann", "zed", "n"), api.ErrNone},
		{name("ann", "ann", "\x00"), api.ErrArg},
		{name("ann", "ann", "n"), api.ErrArg},
		{name("ann", "hal", "\x00"), api.ErrArg},
		{name("ann", "hal", strings.Repeat("x", 41)), api.ErrArg},
		{name("ann", "hal", "n"), api.ErrFull},
		{remove("ann", "zed"), api.ErrNone},
		{remove("zed", "ann"), api.ErrNone},
		{remove("ann", "ann"), api.ErrNone},
		{remove("ann", "hal"), api.ErrNone},
	} {
		wantError(t, b.b, x.c, x.want)
		b.do(t, x.c, "six")
	}
}

func TestRemove(t *testing.T) {
	asks, wanted, named := act("ann", "bob", 1), act("bob", "ann", 1), name("ann", "bob", "B")
	sees, seen := grants("ann", "bob"), grants("bob", "ann")
	for _, x := range []struct {
		what   string
		row    []call
		pushed string
		told   []int
	}{
		{"named", []call{named}, "ann", nil},
		{"both are named", []call{named, name("bob", "ann", "A")}, "ann", nil},
		{"asked", []call{asks}, "ann", []int{3}},
		{"asked, and is a contact", []call{asks, name("bob", "ann", "A")}, "ann", []int{3}},
		{"named and wanted", []call{named, wanted}, "ann bob", []int{4}},
		{"asked and wanted", []call{asks, wanted}, "ann bob", []int{3, 4}},
		{"sees", sees, "ann", []int{3}},
		{"sees one that has it as a contact", append([]call{name("bob", "ann", "A")}, sees...), "ann bob", []int{3}},
		{"named and seen", append([]call{named}, seen...), "ann bob", []int{4}},
		{"sees and wanted", append(slices.Clone(sees), wanted), "ann bob", []int{3, 4}},
		{"seen and asked", append(slices.Clone(seen), asks), "ann bob", []int{3, 4}},
		{"both see", slices.Concat(sees, seen), "ann bob", []int{3, 4}},
	} {
		b := done(t, x.row...)
		n, m := versionOf(b, "ann"), versionOf(b, "bob")
		bobs, _, _ := b.Items("bob")
		t.Run(x.what, func(t *testing.T) { wantChange(t, b, remove("ann", "bob"), x.pushed, x.told...) })
		wantItems(t, b, "ann", n+1)
		// The other one has the same contact, if it had it, and the version rises once for both acts.
		for i := range bobs {
			bobs[i].Sub, bobs[i].Asked = 0, false
		}
		if strings.Contains(x.pushed, "bob") {
			m++
		}
		wantItems(t, b, "bob", m, bobs...)
		if b.Side("ann", "bob") != (pact.Side{}) || b.Side("bob", "ann") != (pact.Side{}) {
			t.Errorf("%s: %+v, %+v", x.what, b.Side("ann", "bob"), b.Side("bob", "ann"))
		}
		wantUsers(t, b.Audience("ann"))
		wantUsers(t, b.Audience("bob"))
		wantError(t, b, remove("ann", "bob"), api.ErrNone)
	}
}

// One that is seen, or is wanted, and was never named or asked, is no contact to be removed.
func TestRemoveOfOneThatIsNoContact(t *testing.T) {
	for _, row := range [][]call{nil, {act("bob", "ann", 1)}, grants("bob", "ann"), {name("bob", "ann", "A")}, {name("ann", "bob", ""), remove("ann", "bob")}} {
		b := behind(eight, row)
		wantError(t, b.b, remove("ann", "bob"), api.ErrNone)
		b.do(t, remove("ann", "bob"), path(row))
	}
}

func TestOneThatWasRemovedHasNoNameAnyMore(t *testing.T) {
	b := done(t, name("ann", "bob", "Bobby"), name("ann", "cy", "C"), remove("ann", "bob"))
	wantChange(t, b, act("ann", "bob", 1), "ann", 1)
	wantItems(t, b, "ann", 5, api.Item{User: "bob", Asked: true}, api.Item{User: "cy", Name: "C"})
	b = done(t, name("ann", "bob", "Bobby"), remove("ann", "bob"))
	wantChange(t, b, name("ann", "bob", "Bobby"), "ann")
	wantItems(t, b, "ann", 4, api.Item{User: "bob", Name: "Bobby"})
}

func TestAudienceAndWatchedAreInOrder(t *testing.T) {
	var row []call
	for _, other := range []string{"hal", "bob", "fay", "cy"} {
		row = append(row, grants(other, "dan")...)
		row = append(row, grants("eve", other)...)
	}
	b := done(t, row...)
	wantUsers(t, b.Audience("dan"), "bob", "cy", "fay", "hal")
	wantUsers(t, b.Watched("dan"))
	wantUsers(t, b.Watched("eve"), "bob", "cy", "fay", "hal")
	wantUsers(t, b.Audience("eve"))
	wantUsers(t, b.Audience("hal"), "eve")
	wantUsers(t, b.Watched("hal"), "dan")
}

// One that has asked sees nobody yet, and is seen by none.
func TestAudienceOfOneThatIsAsked(t *testing.T) {
	b := done(t, act("ann", "bob", 1), name("bob", "ann", "A"))
	for _, user := range eight {
		wantUsers(t, b.Audience(user))
		wantUsers(t, b.Watched(user))
	}
	if s := b.Side("ann", "bob"); s != (pact.Side{Asked: true}) {
		t.Errorf("%+v", s)
	}
	if s := b.Side("bob", "ann"); s != (pact.Side{Wanted: true}) {
		t.Errorf("%+v", s)
	}
}

// calls answers all calls from either of two users to the other one.
func calls(names ...string) []call {
	var l []call
	for _, ends := range []two{{"ann", "bob"}, {"bob", "ann"}} {
		for n := 1; n <= 4; n++ {
			l = append(l, act(ends.user, ends.other, n))
		}
		for _, s := range names {
			l = append(l, name(ends.user, ends.other, s))
		}
		l = append(l, remove(ends.user, ends.other))
	}
	return l
}

func TestAllRowsOfFourCalls(t *testing.T) {
	all := calls("", "x")
	for n := range len(all) * len(all) * len(all) {
		row := []call{all[n%len(all)], all[n/len(all)%len(all)], all[n/len(all)/len(all)]}
		for _, last := range all {
			behind([]string{"bob", "ann"}, row).do(t, last, path(row))
		}
	}
}

// been tells what a model is like, its versions aside.
func been(m *model) string {
	var text strings.Builder
	for _, user := range m.users {
		for _, other := range m.users {
			s := m.side(user, other)
			name, there := m.names[two{user, other}]
			text.WriteString(strconv.Itoa(s.Sub) + " " + strconv.FormatBool(s.Asked) + " " + strconv.FormatBool(s.Wanted) + " " + strconv.FormatBool(there) + " " + strconv.Quote(name) + "; ")
		}
	}
	return text.String()
}

// Of two users all that is come to, and of each all that may be called, wrong calls, too.
func TestAllThatIsComeTo(t *testing.T) {
	users, right := []string{"ann", "bob"}, calls("", "x")
	wrong := []call{act("ann", "bob", 0), act("ann", "bob", 5), act("ann", "ann", 1), act("ann", "cy", 1), name("ann", "bob", "\x00"), name("ann", "ann", "x"), name("cy", "ann", "x"), remove("ann", "ann"), remove("ann", "cy")}
	known := map[string]bool{been(newModel(users)): true}
	for rows := [][]call{nil}; len(rows) > 0; rows = rows[1:] {
		row := rows[0]
		for _, c := range slices.Concat(right, wrong) {
			b := behind(users, row)
			b.do(t, c, path(row))
			if state := been(b.m); !known[state] {
				known[state] = true
				rows = append(rows, append(slices.Clone(row), c))
			}
		}
	}
	// Of each of both: it has nothing of the other one, and that is no contact, or one of either name; or it has asked, or sees, and that is a contact of either name.
	if len(known) != (3+2+2)*(3+2+2) {
		t.Errorf("%d are come to", len(known))
	}
}

// draws answers a call that is drawn, mostly right.
func draws(draw func(n int) int, users []string) call {
	user, contact := one(draw, users), one(draw, users)
	if draw(40) == 0 {
		contact = one(draw, noUsers)
	}
	if draw(40) == 0 {
		user = one(draw, noUsers)
	}
	switch draw(8) {
	case 0:
		return remove(user, contact)
	case 1:
		return name(user, contact, one(draw, rightNames))
	case 2:
		if draw(8) == 0 {
			return name(user, contact, one(draw, wrongNames))
		}
		return name(user, contact, "")
	case 3:
		if draw(8) == 0 {
			return act(user, contact, noActs[draw(len(noActs))])
		}
	}
	return act(user, contact, 1+draw(4))
}

func TestLongRows(t *testing.T) {
	for n := 1; n <= 8; n++ {
		users := []string{"b", "aa", "ab", "a", "z9", "0", "a0", "sixteenletters16"}[:n]
		for seed := range uint64(6) {
			draw := drawn(seed*8 + uint64(n))
			b := newBoth(users...)
			for i := range 1500 {
				b.do(t, draws(draw, users), strconv.Itoa(n)+" users, seed "+strconv.FormatUint(seed, 10)+", call "+strconv.Itoa(i))
			}
		}
	}
}

// P12.2, of what the book answers alone: a version is one more just where items are others, once for each call, and who is pushed is that.
func TestAVersionRisesJustWhereItemsChange(t *testing.T) {
	draw, b := drawn(12), New(eight)
	rises := map[int]int{}
	for range 20000 {
		ahead, versions := map[string][]api.Item{}, map[string]int{}
		for _, user := range eight {
			ahead[user], versions[user], _ = b.Items(user)
		}
		c := draws(draw, eight)
		change, e := c.of(b)
		var want []string
		for _, user := range eight {
			l, version, _ := b.Items(user)
			if !slices.Equal(l, ahead[user]) {
				want = append(want, user)
				versions[user]++
			}
			if version != versions[user] {
				t.Fatalf("%s: version of %s %d, want %d", c, user, version, versions[user])
			}
		}
		wantUsers(t, change.Pushed, want...)
		if e != api.OK && len(want) != 0 {
			t.Fatalf("%s: refused, %d, but %q are others", c, e, want)
		}
		rises[len(want)]++
	}
	if rises[0] == 0 || rises[1] == 0 || rises[2] == 0 || len(rises) != 3 {
		t.Error(rises)
	}
}

func TestARefusedCallLeavesAllAsItWas(t *testing.T) {
	row := append(slices.Concat(six()[2], grants("bob", "ann"), grants("cy", "ann")), act("ann", "bob", 3))
	b := behind(eight, row)
	for range 2 {
		for _, c := range []call{
			act("ann", "hal", 1), act("ann", "hal", 0), act("ann", "ann", 1), act("ann", "zed", 1), act("zed", "ann", 1),
			name("ann", "hal", "n"), name("ann", "bob", "\xff"), name("ann", "ann", "n"), name("ann", "zed", "n"),
			remove("ann", "hal"), remove("ann", "ann"), remove("hal", "ann"), remove("zed", "ann"),
		} {
			if got, e := c.of(b.b); e == api.OK || len(got.Pushed) != 0 || len(got.Told) != 0 {
				t.Errorf("%s: %+v, error %d", c, got, e)
			}
			b.same(t, c.String())
		}
	}
	// And what comes behind it is as if it had never been called.
	for _, c := range []call{act("ann", "bob", 1), remove("ann", "gus"), name("ann", "hal", "n"), act("ann", "hal", 1), remove("ann", "cy")} {
		b.do(t, c, "behind refused ones")
	}
}

func TestWhatIsHandedInIsNeitherChangedNorKept(t *testing.T) {
	for _, users := range [][]string{{"cy", "ann", "bob"}, slices.Clip([]string{"cy", "bob", "ann"}), append(make([]string, 0, 8), "cy", "bob", "ann")} {
		was := slices.Clone(users[:cap(users)])
		b := newBoth(users...)
		if !slices.Equal(users[:cap(users)], was) {
			t.Errorf("%q is %q", was, users[:cap(users)])
		}
		for i := range users {
			users[i] = "zed"
		}
		b.same(t, "the list is another")
		b.do(t, act("ann", "bob", 1), "the list is another")
		b.do(t, act("ann", "zed", 1), "the list is another")
	}
}

// spoil writes over a list, up to its capacity.
func spoil[T any](l []T, with T) {
	l = l[:cap(l)]
	for i := range l {
		l[i] = with
	}
}

func TestListsThatAreAnsweredAreNewMemory(t *testing.T) {
	b := newBoth(eight...)
	row := slices.Concat(grants("ann", "bob"), grants("bob", "ann"), grants("cy", "ann"), grants("ann", "cy"), []call{name("ann", "dan", "D"), act("ann", "eve", 1)})
	for _, c := range append(row, remove("ann", "bob"), act("ann", "cy", 3)) {
		change, _ := c.of(b.b)
		c.ofModel(b.m)
		spoil(change.Pushed, "zed")
		spoil(change.Told, Told{"zed", "zed", 9})
		for _, user := range eight {
			l, _, _ := b.b.Items(user)
			spoil(l, api.Item{User: "zed", Name: "z", Sub: 9})
			spoil(b.b.Audience(user), "zed")
			spoil(b.b.Watched(user), "zed")
		}
		spoil(b.b.Users(), "zed")
		b.same(t, "spoilt behind "+c.String())
	}
}

// An answer stays as it was, whatever is called behind it.
func TestAnAnswerStays(t *testing.T) {
	b := done(t, slices.Concat(grants("ann", "bob"), grants("bob", "ann"), grants("cy", "ann"), []call{name("ann", "cy", "C")})...)
	items, _, _ := b.Items("ann")
	audience, watched, users := b.Audience("ann"), b.Watched("ann"), b.Users()
	change, _ := b.Remove("ann", "bob")
	for _, c := range []call{name("ann", "cy", "other"), remove("ann", "cy"), act("ann", "dan", 1), act("dan", "ann", 2), act("bob", "ann", 1), remove("bob", "ann")} {
		if _, e := c.of(b); e != api.OK {
			t.Fatal(c, e)
		}
	}
	if !slices.Equal(items, []api.Item{{User: "bob", Sub: api.SubBoth}, {User: "cy", Name: "C", Sub: api.SubFrom}}) {
		t.Errorf("%+v", items)
	}
	if !reflect.DeepEqual(change, Change{[]string{"ann", "bob"}, []Told{{"bob", "ann", 3}, {"bob", "ann", 4}}}) {
		t.Errorf("%+v", change)
	}
	wantUsers(t, audience, "bob", "cy")
	wantUsers(t, watched, "bob")
	wantUsers(t, users, eight...)
}

// R6: two books don't touch each other, and the same calls have the same answers.
func TestTwoBooksAreApart(t *testing.T) {
	a, b := newBoth(eight...), newBoth(eight...)
	a.do(t, act("ann", "bob", 1), "a")
	b.same(t, "nothing was done")
	b.do(t, name("ann", "cy", "C"), "b")
	a.same(t, "the other one was named")
	b.do(t, act("ann", "bob", 1), "b")
}

func TestOfNil(t *testing.T) {
	var none *Book
	for _, b := range []*Book{none, {}} {
		for range 2 {
			for _, user := range append(slices.Clone(noUsers), eight...) {
				if l, n, e := b.Items(user); len(l) != 0 || n != 0 || e != api.ErrNone {
					t.Errorf("items: %+v, %d, error %d", l, n, e)
				}
				wantUsers(t, b.Audience(user))
				wantUsers(t, b.Watched(user))
				for _, other := range []string{"", "ann", "bob", user} {
					if s := b.Side(user, other); s != (pact.Side{}) {
						t.Errorf("%+v", s)
					}
					for _, n := range append([]int{1, 2, 3, 4}, noActs...) {
						wantError(t, b, act(user, other, n), api.ErrNone)
					}
					wantError(t, b, name(user, other, "n"), api.ErrNone)
					wantError(t, b, name(user, other, "\x00"), api.ErrNone)
					wantError(t, b, remove(user, other), api.ErrNone)
				}
			}
			wantUsers(t, b.Users())
		}
	}
}
