package pact

import (
	"math"
	"slices"
	"strings"
	"testing"

	"tidewater/api"
)

// written are the sides that may be, told by words, and what comes of the acts 1 to 4 at each: "-" is nothing; echo is a grant as an answer; else the side is then as it is told ("none": of nothing), and the act is told, or passed on.
var written = []struct {
	side     string
	do, hear [4]string
}{
	{"none",
		[4]string{"asked", "-", "-", "-"},
		[4]string{"wanted", "-", "-", "-"}},
	{"asked",
		[4]string{"asked", "-", "none", "-"},
		[4]string{"asked wanted", "sees", "-", "none"}},
	{"wanted",
		[4]string{"asked wanted", "seen", "-", "none"},
		[4]string{"-", "-", "none", "-"}},
	{"asked wanted",
		[4]string{"asked wanted", "seen asked", "wanted", "asked"},
		[4]string{"-", "sees wanted", "asked", "wanted"}},
	{"sees",
		[4]string{"sees", "-", "none", "-"},
		[4]string{"sees wanted", "-", "-", "none"}},
	{"sees wanted",
		[4]string{"sees wanted", "sees seen", "wanted", "sees"},
		[4]string{"-", "-", "sees", "wanted"}},
	{"seen",
		[4]string{"seen asked", "-", "-", "none"},
		[4]string{"echo", "-", "none", "-"}},
	{"seen asked",
		[4]string{"seen asked", "-", "seen", "asked"},
		[4]string{"echo", "sees seen", "asked", "seen"}},
	{"sees seen",
		[4]string{"sees seen", "-", "seen", "sees"},
		[4]string{"echo", "-", "sees", "seen"}},
}

// subs holds all that Sub may be, and numbers that it may not be, some of them alike in their last bits.
var subs = []int{0, 1, 2, 3, -1, 4, math.MinInt, math.MaxInt, -2, -3, -4, 5, 6, 7, 8, 256, 257, 258, 259, 1 << 32, 1<<32 + 1, 1<<32 + 2, 1<<32 + 3, math.MinInt + 1, math.MinInt + 2, math.MinInt + 3, math.MaxInt - 1}

// noActs holds numbers that are no act's.
var noActs = []int{0, 5, -1, math.MinInt, math.MaxInt, -2, -3, -4, 6, 7, 8, 256, 257, 260, 1 << 32, 1<<32 + 1, 1<<32 + 4, math.MinInt + 1, math.MinInt + 4, math.MaxInt - 1}

var allActs = append([]int{1, 2, 3, 4}, noActs...)

// told answers the side that the words tell.
func told(words string) Side {
	sub := 0
	if strings.Contains(words, "sees") {
		sub++
	}
	if strings.Contains(words, "seen") {
		sub += 2
	}
	return Side{Sub: sub, Asked: strings.Contains(words, "asked"), Wanted: strings.Contains(words, "wanted")}
}

// sides answers all sides of subs.
func sides() []Side {
	var all []Side
	for _, sub := range subs {
		for _, asked := range []bool{false, true} {
			for _, wanted := range []bool{false, true} {
				all = append(all, Side{sub, asked, wanted})
			}
		}
	}
	return all
}

// rightSides answers the nine that are written.
func rightSides() []Side {
	var all []Side
	for _, w := range written {
		all = append(all, told(w.side))
	}
	return all
}

func mayBe(s Side) bool { return slices.Contains(rightSides(), s) }

func isAct(act int) bool { return 1 <= act && act <= 4 }

// wantedStep answers what is written of an act at a side.
func wantedStep(s Side, act int, hears bool) (Step, api.Errno) {
	place := slices.Index(rightSides(), s)
	if place < 0 || !isAct(act) {
		return Step{}, api.ErrArg
	}
	cell := written[place].do[act-1]
	if hears {
		cell = written[place].hear[act-1]
	}
	switch cell {
	case "-":
		return Step{Side: s}, api.OK
	case "echo":
		return Step{Side: s, Echo: true}, api.OK
	}
	return Step{Side: told(cell), Tell: true}, api.OK
}

// wantedBoth answers what comes of an act at both sides, by what is written of each.
func wantedBoth(a, b Side, act int) (Side, Side, api.Errno) {
	if !mayBe(a) || !mayBe(b) || !isAct(act) {
		return Side{}, Side{}, api.ErrArg
	}
	did, _ := wantedStep(a, act, false)
	a = did.Side
	if did.Tell {
		heard, _ := wantedStep(b, act, true)
		b = heard.Side
		if heard.Echo {
			answer, _ := wantedStep(a, 2, true)
			a = answer.Side
		}
	}
	return a, b, api.OK
}

func wantStep(t *testing.T, s Side, act int) {
	t.Helper()
	want, wantE := wantedStep(s, act, false)
	if got, e := Do(s, act); got != want || e != wantE {
		t.Errorf("%+v does %d: %+v, error %d, want %+v, %d", s, act, got, e, want, wantE)
	}
	want, wantE = wantedStep(s, act, true)
	if got, e := Hear(s, act); got != want || e != wantE {
		t.Errorf("%+v hears %d: %+v, error %d, want %+v, %d", s, act, got, e, want, wantE)
	}
}

func TestTheChaptersExample(t *testing.T) {
	a, b, e := Both(Side{}, Side{}, Act("subscribe"))
	if a != told("asked") || b != told("wanted") || e != api.OK || Sees(a) || Seen(b) {
		t.Error(a, b, e)
	}
	b, a, e = Both(b, a, Act("subscribed"))
	if a != told("sees") || b != told("seen") || e != api.OK || !Sees(a) || !Seen(b) || Seen(a) || Sees(b) {
		t.Error(a, b, e)
	}
}

func TestWhichSidesMayBe(t *testing.T) {
	for _, s := range sides() {
		want := s.Sub >= 0 && s.Sub <= 3
		if s.Asked && s.Sub != api.SubNone && s.Sub != api.SubFrom {
			want = false
		}
		if s.Wanted && s.Sub != api.SubNone && s.Sub != api.SubTo {
			want = false
		}
		if Right(s) != want || mayBe(s) != want {
			t.Errorf("%+v may be: %v, want %v", s, Right(s), want)
		}
	}
}

func TestWhichSidesMayBeAsTheyAreWritten(t *testing.T) {
	for _, s := range []Side{
		{}, {Asked: true}, {Wanted: true}, {Asked: true, Wanted: true},
		{Sub: api.SubTo}, {Sub: api.SubTo, Wanted: true},
		{Sub: api.SubFrom}, {Sub: api.SubFrom, Asked: true},
		{Sub: api.SubBoth},
	} {
		if !Right(s) {
			t.Errorf("%+v may not be", s)
		}
	}
	for _, s := range []Side{
		{Sub: api.SubTo, Asked: true}, {Sub: api.SubTo, Asked: true, Wanted: true},
		{Sub: api.SubFrom, Wanted: true}, {Sub: api.SubFrom, Asked: true, Wanted: true},
		{Sub: api.SubBoth, Asked: true}, {Sub: api.SubBoth, Wanted: true}, {Sub: api.SubBoth, Asked: true, Wanted: true},
		{Sub: -1}, {Sub: 4}, {Sub: math.MinInt}, {Sub: math.MaxInt},
		{Sub: -1, Asked: true}, {Sub: 4, Wanted: true}, {Sub: math.MinInt, Asked: true, Wanted: true},
	} {
		if Right(s) {
			t.Errorf("%+v may be", s)
		}
	}
}

// Row by row of both tables, at each side that may be.
func TestEachActAtEachSide(t *testing.T) {
	for _, s := range rightSides() {
		for act := 1; act <= 4; act++ {
			wantStep(t, s, act)
		}
	}
}

func TestWhereThereIsNoSuchAct(t *testing.T) {
	for _, s := range sides() {
		for _, act := range noActs {
			if step, e := Do(s, act); step != (Step{}) || e != api.ErrArg {
				t.Errorf("%+v does %d: %+v, error %d", s, act, step, e)
			}
			if step, e := Hear(s, act); step != (Step{}) || e != api.ErrArg {
				t.Errorf("%+v hears %d: %+v, error %d", s, act, step, e)
			}
		}
	}
}

func TestActsOfSidesThatMayNotBe(t *testing.T) {
	for _, s := range sides() {
		if mayBe(s) {
			continue
		}
		for _, act := range allActs {
			if step, e := Do(s, act); step != (Step{}) || e != api.ErrArg {
				t.Errorf("%+v does %d: %+v, error %d", s, act, step, e)
			}
			if step, e := Hear(s, act); step != (Step{}) || e != api.ErrArg {
				t.Errorf("%+v hears %d: %+v, error %d", s, act, step, e)
			}
		}
	}
}

// The chapter's conditions, told of the whole tables at once.
func TestWhereAnActIsToldOrPassedOn(t *testing.T) {
	for _, s := range rightSides() {
		sees, seen := s.Sub == 1 || s.Sub == 3, s.Sub == 2 || s.Sub == 3
		for act, want := range map[int][2]bool{
			1: {true, !seen && !s.Wanted},
			2: {s.Wanted, s.Asked},
			3: {sees || s.Asked, seen || s.Wanted},
			4: {seen || s.Wanted, sees || s.Asked},
		} {
			do, _ := Do(s, act)
			hear, _ := Hear(s, act)
			if do.Tell != want[0] || hear.Tell != want[1] {
				t.Errorf("%+v and %d: told %v, passed on %v, want %v", s, act, do.Tell, hear.Tell, want)
			}
			if !do.Tell && do.Side != s || !hear.Tell && hear.Side != s {
				t.Errorf("%+v and %d: nothing is told, but it is %+v then, or %+v", s, act, do.Side, hear.Side)
			}
			if do.Echo || hear.Echo != (act == 1 && seen) {
				t.Errorf("%+v and %d: echo %v, of one that comes %v", s, act, do.Echo, hear.Echo)
			}
		}
	}
}

func TestAnAskThatComes(t *testing.T) {
	for _, x := range []struct {
		side string
		want Step
	}{
		{"none", Step{told("wanted"), true, false}},
		{"sees", Step{told("sees wanted"), true, false}},
		// It is Wanted already.
		{"wanted", Step{told("wanted"), false, false}},
		{"asked wanted", Step{told("asked wanted"), false, false}},
		{"sees wanted", Step{told("sees wanted"), false, false}},
		// It is seen.
		{"seen", Step{told("seen"), false, true}},
		{"seen asked", Step{told("seen asked"), false, true}},
		{"sees seen", Step{told("sees seen"), false, true}},
	} {
		if step, e := Hear(told(x.side), 1); step != x.want || e != api.OK {
			t.Errorf("%s: %+v, error %d, want %+v", x.side, step, e, x.want)
		}
	}
}

func TestSeesAndSeen(t *testing.T) {
	for _, s := range sides() {
		if sees := s.Sub == 1 || s.Sub == 3; Sees(s) != sees {
			t.Errorf("%+v sees: %v", s, Sees(s))
		}
		if seen := s.Sub == 2 || s.Sub == 3; Seen(s) != seen {
			t.Errorf("%+v is seen: %v", s, Seen(s))
		}
	}
}

// Each side that may be fits just one that may be.
func TestWhichSidesFit(t *testing.T) {
	fitting := map[string]string{
		"none": "none", "asked": "wanted", "wanted": "asked", "asked wanted": "asked wanted",
		"sees": "seen", "sees wanted": "seen asked", "seen": "sees", "seen asked": "sees wanted", "sees seen": "sees seen",
	}
	for _, a := range written {
		for _, b := range written {
			if got, want := Fit(told(a.side), told(b.side)), fitting[a.side] == b.side; got != want {
				t.Errorf("%q and %q fit: %v, want %v", a.side, b.side, got, want)
			}
		}
	}
}

// Of sides that may not be, too, the chapter's words are asked, and those alone.
func TestFitOfAllPairs(t *testing.T) {
	for _, a := range sides() {
		for _, b := range sides() {
			want := true
			for _, same := range [][2]bool{
				{a.Sub == 1 || a.Sub == 3, b.Sub == 2 || b.Sub == 3},
				{b.Sub == 1 || b.Sub == 3, a.Sub == 2 || a.Sub == 3},
				{a.Wanted, b.Asked},
				{b.Wanted, a.Asked},
			} {
				want = want && same[0] == same[1]
			}
			if Fit(a, b) != want {
				t.Errorf("%+v and %+v fit: %v", a, b, Fit(a, b))
			}
		}
	}
}

func TestBothAsTheyAreWritten(t *testing.T) {
	for _, x := range []struct {
		a, b         string
		act          int
		thenA, thenB string
	}{
		{"none", "none", 1, "asked", "wanted"},
		{"asked", "wanted", 1, "asked", "wanted"},
		{"wanted", "asked", 1, "asked wanted", "asked wanted"},
		{"wanted", "asked", 2, "seen", "sees"},
		{"wanted", "asked", 4, "none", "none"},
		{"asked", "wanted", 3, "none", "none"},
		{"sees", "seen", 3, "none", "none"},
		{"seen", "sees", 4, "none", "none"},
		{"seen asked", "sees wanted", 3, "seen", "sees"},
		{"sees wanted", "seen asked", 2, "sees seen", "sees seen"},
		{"sees seen", "sees seen", 3, "seen", "sees"},
		{"sees seen", "sees seen", 4, "sees", "seen"},
		// It isn't told: what the other one would have heard is nothing.
		{"none", "asked", 2, "none", "asked"},
		{"seen", "asked", 2, "seen", "asked"},
		{"none", "seen", 3, "none", "seen"},
		{"wanted", "wanted", 3, "wanted", "wanted"},
		{"none", "sees", 4, "none", "sees"},
		{"asked", "asked", 4, "asked", "asked"},
		// It is told, but not passed on.
		{"wanted", "none", 2, "seen", "none"},
		{"sees", "none", 3, "none", "none"},
		{"seen", "seen", 4, "none", "seen"},
		{"none", "wanted", 1, "asked", "wanted"},
		// The other one echoes, and that is passed on where it was asked.
		{"none", "seen", 1, "sees", "seen"},
		{"asked", "sees seen", 1, "sees", "sees seen"},
		{"wanted", "seen asked", 1, "sees wanted", "seen asked"},
		{"seen asked", "seen", 1, "sees seen", "seen"},
		{"sees", "seen", 1, "sees", "seen"},
		{"sees wanted", "seen asked", 1, "sees wanted", "seen asked"},
		{"sees seen", "sees seen", 1, "sees seen", "sees seen"},
	} {
		a, b, e := Both(told(x.a), told(x.b), x.act)
		if a != told(x.thenA) || b != told(x.thenB) || e != api.OK {
			t.Errorf("%q and %q, %d: %+v and %+v, error %d, want %q and %q", x.a, x.b, x.act, a, b, e, x.thenA, x.thenB)
		}
	}
}

func TestBothOfAllPairs(t *testing.T) {
	for _, a := range sides() {
		for _, b := range sides() {
			for _, act := range allActs {
				wantA, wantB, want := wantedBoth(a, b, act)
				if gotA, gotB, e := Both(a, b, act); gotA != wantA || gotB != wantB || e != want {
					t.Errorf("%+v and %+v, %d: %+v and %+v, error %d, want %+v and %+v, %d", a, b, act, gotA, gotB, e, wantA, wantB, want)
				}
			}
		}
	}
}

// Where nothing is told either: a side that may not be is refused, and both sides answered are of nothing.
func TestBothWhereOneMayNotBe(t *testing.T) {
	no := []Side{{Sub: 4}, {Sub: -1}, {Sub: api.SubTo, Asked: true}, {Sub: api.SubFrom, Wanted: true}, {Sub: api.SubBoth, Asked: true, Wanted: true}, {Sub: math.MinInt}, {Sub: math.MaxInt}}
	for _, wrong := range no {
		for _, right := range rightSides() {
			for _, act := range allActs {
				for _, pair := range [][2]Side{{wrong, right}, {right, wrong}, {wrong, wrong}} {
					if a, b, e := Both(pair[0], pair[1], act); a != (Side{}) || b != (Side{}) || e != api.ErrArg {
						t.Errorf("%+v, %d: %+v and %+v, error %d", pair, act, a, b, e)
					}
				}
			}
		}
	}
}

// P11.2: a side that may be may be behind each act, its own or one that comes.
func TestSidesThatMayBeStaySo(t *testing.T) {
	for _, a := range rightSides() {
		for act := 1; act <= 4; act++ {
			do, e := Do(a, act)
			hear, e2 := Hear(a, act)
			if !Right(do.Side) || !Right(hear.Side) || e != api.OK || e2 != api.OK {
				t.Errorf("%+v and %d: %+v, %+v, errors %d, %d", a, act, do, hear, e, e2)
			}
			for _, b := range rightSides() {
				if thenA, thenB, e := Both(a, b, act); !Right(thenA) || !Right(thenB) || e != api.OK {
					t.Errorf("%+v and %+v, %d: %+v and %+v, error %d", a, b, act, thenA, thenB, e)
				}
			}
		}
	}
}

// P11.2: sides that fit, fit behind each act of either one.
func TestSidesThatFitFitBehindEachAct(t *testing.T) {
	pairs := 0
	for _, a := range rightSides() {
		for _, b := range rightSides() {
			if !Fit(a, b) {
				continue
			}
			pairs++
			for act := 1; act <= 4; act++ {
				if thenA, thenB, e := Both(a, b, act); !Fit(thenA, thenB) || !Fit(thenB, thenA) || e != api.OK {
					t.Errorf("%+v and %+v, %d: %+v and %+v, error %d", a, b, act, thenA, thenB, e)
				}
			}
		}
	}
	if pairs != 9 {
		t.Errorf("%d pairs fit", pairs)
	}
}

// P11.2 in whatever row: from two sides of nothing just the pairs that fit are come to, and all of them.
func TestAllPairsThatAreComeTo(t *testing.T) {
	been := map[[2]Side]bool{{}: true}
	for row := [][2]Side{{}}; len(row) > 0; row = row[1:] {
		a, b := row[0][0], row[0][1]
		if !Right(a) || !Right(b) || !Fit(a, b) {
			t.Errorf("%+v and %+v are come to", a, b)
		}
		for act := 1; act <= 4; act++ {
			thenA, thenB, _ := Both(a, b, act)
			laterB, laterA, _ := Both(b, a, act)
			for _, next := range [][2]Side{{thenA, thenB}, {laterA, laterB}} {
				if !been[next] {
					been[next] = true
					row = append(row, next)
				}
			}
		}
	}
	if len(been) != 9 {
		t.Errorf("%d pairs are come to", len(been))
	}
}

func TestNamesThereAndBack(t *testing.T) {
	for act, name := range map[int]string{1: "subscribe", 2: "subscribed", 3: "unsubscribe", 4: "unsubscribed"} {
		if Name(act) != name || Act(name) != act {
			t.Errorf("%d is %q, %q is %d", act, Name(act), name, Act(name))
		}
	}
}

func TestNamesOfNoAct(t *testing.T) {
	for _, act := range noActs {
		if Name(act) != "" {
			t.Errorf("%d is %q", act, Name(act))
		}
	}
}

func TestNamesThatAreNone(t *testing.T) {
	names := []string{"", " ", "x", "0", "1", "s", "ask", "grant", "leave", "refuse", "un", "unavailable", "available", "error", "probe", "Subscribe", "SUBSCRIBED", "unSubscribe", "unsubscribeD", "subscribedd", "ununsubscribe", "\x00", "\xff", "ѕubscribe", strings.Repeat("subscribe", 1<<16)}
	for act := 1; act <= 4; act++ {
		name := Name(act)
		names = append(names, name+" ", " "+name, name+"\x00", name+"\n", name[1:], name+name, name+","+name)
		for cut := range name {
			if cut != len("subscribe") && cut != len("unsubscribe") {
				names = append(names, name[:cut])
			}
		}
	}
	for _, name := range names {
		if Act(name) != 0 {
			t.Errorf("%q is %d", name, Act(name))
		}
	}
}

// R6: a call answers the same, whatever was called ahead of it.
func TestNothingIsKept(t *testing.T) {
	for range 3 {
		for _, s := range sides() {
			for _, act := range allActs {
				wantStep(t, s, act)
			}
		}
		if Name(1) != "subscribe" || Act("unsubscribed") != 4 || !Right(Side{}) || !Fit(Side{}, Side{}) {
			t.Error("an answer of another time")
		}
	}
}
