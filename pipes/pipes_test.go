package pipes

import (
	"math"
	"slices"
	"strconv"
	"strings"
	"testing"

	"tidewater/api"
)

// model tells the chapter's words again, of one connection and byte by byte.
type model struct {
	state string // "" if it is closed, else whole or broken
	came  string
	ahead []bool // a true for each byte that comes out ahead of the break; nil if it doesn't break
}

func (m *model) open() api.Errno {
	if m.state != "" {
		return api.ErrThere
	}
	*m = model{state: "whole"}
	return api.OK
}

func (m *model) write(s string) api.Errno {
	if m.state != "whole" {
		return api.ErrGone
	}
	for _, b := range []byte(s) {
		if m.ahead != nil {
			if len(m.ahead) == 0 {
				m.state = "broken"
				return api.ErrGone
			}
			m.ahead = m.ahead[1:]
		}
		m.came += string([]byte{b})
	}
	return api.OK
}

// breakBehind is told only of an n that is far less than what can be written, or so great that it is never reached.
func (m *model) breakBehind(n int) api.Errno {
	if m.state != "whole" {
		return api.ErrGone
	}
	m.ahead = nil
	if n >= 0 && n < 1<<20 {
		m.ahead = make([]bool, n)
	}
	return api.OK
}

func (m *model) close() api.Errno {
	if m.state == "" {
		return api.ErrGone
	}
	m.state = ""
	return api.OK
}

// none holds numbers that are no connection's.
var none = []int{-1, -2, -15, -16, 16, 17, 31, 32, 256, 256 + 5, 1 << 16, 1<<32 + 5, -1 << 32, math.MinInt, math.MinInt + 5, math.MaxInt, math.MaxInt - 15}

// both has a call done with pipes and models, and fails if they answer otherwise or aren't the same behind it.
type both struct {
	p      *Pipes
	models []model
}

func newBoth() both { return both{New(), make([]model, 16)} }

// is fails if a call that changes nothing answers otherwise than the models.
func (b both) is(t *testing.T, path string) {
	t.Helper()
	var all []int
	for id := range b.models {
		m := &b.models[id]
		if b.p.Whole(id) != (m.state == "whole") || b.p.Is(id) != (m.state != "") || b.p.Out(id) != m.came {
			t.Fatalf("%s: %d is whole %v, is open %v, out %q; want %q, %q", path, id, b.p.Whole(id), b.p.Is(id), b.p.Out(id), m.state, m.came)
		}
		if m.state != "" {
			all = append(all, id)
		}
	}
	if l := b.p.All(); !slices.Equal(l, all) {
		t.Fatalf("%s: all %v, want %v", path, l, all)
	}
}

func (b both) same(t *testing.T, got, want api.Errno, path string) {
	t.Helper()
	if got != want {
		t.Fatalf("%s: %d, want %d", path, got, want)
	}
	b.is(t, path)
}

func (b both) open(t *testing.T, id int, path string) {
	t.Helper()
	b.same(t, b.p.Open(id), b.models[id].open(), path)
}

func (b both) write(t *testing.T, id int, s, path string) {
	t.Helper()
	b.same(t, b.p.Write(id, s), b.models[id].write(s), path)
}

func (b both) breakBehind(t *testing.T, id, n int, path string) {
	t.Helper()
	b.same(t, b.p.Break(id, n), b.models[id].breakBehind(n), path)
}

func (b both) close(t *testing.T, id int, path string) {
	t.Helper()
	b.same(t, b.p.Close(id), b.models[id].close(), path)
}

// look fails if a connection isn't as it is told: closed, whole or broken, and what came out.
func look(t *testing.T, p *Pipes, id int, state, out string) {
	t.Helper()
	if p.Is(id) != (state != "closed") || p.Whole(id) != (state == "whole") || p.Out(id) != out {
		t.Errorf("%d: is %v, whole %v, out %q; want %s, %q", id, p.Is(id), p.Whole(id), p.Out(id), state, out)
	}
}

func wants(t *testing.T, e, want api.Errno) {
	t.Helper()
	if e != want {
		t.Errorf("%d, want %d", e, want)
	}
}

// opened answers pipes whose connection 3 is open, and out of which ab came.
func opened(t *testing.T) *Pipes {
	t.Helper()
	p := New()
	wants(t, p.Open(3), api.OK)
	wants(t, p.Write(3, "ab"), api.OK)
	return p
}

// broken answers pipes whose connection 3 broke behind ab.
func broken(t *testing.T) *Pipes {
	t.Helper()
	p := opened(t)
	wants(t, p.Break(3, 0), api.OK)
	wants(t, p.Write(3, "lost"), api.ErrGone)
	return p
}

// closed answers pipes whose connection 3 was closed behind ab.
func closed(t *testing.T) *Pipes {
	t.Helper()
	p := opened(t)
	wants(t, p.Close(3), api.OK)
	return p
}

func TestTheChaptersExample(t *testing.T) {
	p := New()
	wants(t, p.Open(0), api.OK)
	wants(t, p.Break(0, 2), api.OK)
	wants(t, p.Write(0, "abc"), api.ErrGone)
	look(t, p, 0, "broken", "ab")
}

func TestAllAreClosedAtFirst(t *testing.T) {
	p := New()
	for id := range 16 {
		look(t, p, id, "closed", "")
		wants(t, p.Write(id, "a"), api.ErrGone)
		wants(t, p.Write(id, ""), api.ErrGone)
		wants(t, p.Break(id, 1), api.ErrGone)
		wants(t, p.Close(id), api.ErrGone)
		look(t, p, id, "closed", "")
	}
	if l := p.All(); len(l) != 0 {
		t.Error(l)
	}
}

func TestEachOfTheSixteen(t *testing.T) {
	for id := range 16 {
		p := New()
		wants(t, p.Open(id), api.OK)
		look(t, p, id, "whole", "")
		wants(t, p.Write(id, "abc"), api.OK)
		look(t, p, id, "whole", "abc")
		wants(t, p.Break(id, 1), api.OK)
		wants(t, p.Write(id, "de"), api.ErrGone)
		look(t, p, id, "broken", "abcd")
		for other := range 16 {
			if other != id {
				look(t, p, other, "closed", "")
			}
		}
		if l := p.All(); !slices.Equal(l, []int{id}) {
			t.Error(l)
		}
		wants(t, p.Close(id), api.OK)
		look(t, p, id, "closed", "abcd")
	}
}

func TestThereIsNoSuchConnection(t *testing.T) {
	b := newBoth()
	for id := range 16 {
		if id%3 != 0 {
			b.open(t, id, "open")
			b.write(t, id, "of "+strconv.Itoa(id), "write")
		}
	}
	for _, id := range none {
		for range 2 {
			path := "of " + strconv.Itoa(id)
			b.same(t, b.p.Open(id), api.ErrArg, path)
			b.same(t, b.p.Write(id, "a"), api.ErrArg, path)
			b.same(t, b.p.Write(id, ""), api.ErrArg, path)
			for _, n := range []int{math.MinInt, -1, 0, 1, math.MaxInt} {
				b.same(t, b.p.Break(id, n), api.ErrArg, path)
			}
			b.same(t, b.p.Close(id), api.ErrArg, path)
			if b.p.Whole(id) || b.p.Is(id) || b.p.Out(id) != "" {
				t.Errorf("%d: %v %v %q", id, b.p.Whole(id), b.p.Is(id), b.p.Out(id))
			}
		}
	}
}

func TestOpenOfOneThatIsOpen(t *testing.T) {
	p := opened(t)
	wants(t, p.Open(3), api.ErrThere)
	look(t, p, 3, "whole", "ab")

	p = broken(t)
	wants(t, p.Open(3), api.ErrThere)
	look(t, p, 3, "broken", "ab")

	// The break is as near as it was.
	p = opened(t)
	wants(t, p.Break(3, 1), api.OK)
	wants(t, p.Open(3), api.ErrThere)
	wants(t, p.Write(3, "cd"), api.ErrGone)
	look(t, p, 3, "broken", "abc")
}

func TestOpenedAnew(t *testing.T) {
	breaking := opened(t)
	wants(t, breaking.Break(3, 1), api.OK)
	for _, p := range []*Pipes{opened(t), broken(t), closed(t), breaking} {
		p.Close(3)
		look(t, p, 3, "closed", "ab")
		wants(t, p.Open(3), api.OK)
		look(t, p, 3, "whole", "")
		// What broke, or was to break, was the connection ahead of it.
		wants(t, p.Write(3, "xyz"), api.OK)
		look(t, p, 3, "whole", "xyz")
		wants(t, p.Close(3), api.OK)
		look(t, p, 3, "closed", "xyz")
	}
}

func TestWriteToOneThatIsClosedOrBroken(t *testing.T) {
	for _, s := range []string{"", "a", "cd"} {
		p := closed(t)
		wants(t, p.Write(3, s), api.ErrGone)
		look(t, p, 3, "closed", "ab")
		p = broken(t)
		wants(t, p.Write(3, s), api.ErrGone)
		look(t, p, 3, "broken", "ab")
	}
}

func TestWriteToAWholeOne(t *testing.T) {
	p := New()
	p.Open(3)
	want := ""
	for _, s := range []string{"", "a", "", "bc", "\x00", "\xff\xfe", "é€😀", "<presence/>", "\n ", strings.Repeat("long ", 1<<16), ""} {
		wants(t, p.Write(3, s), api.OK)
		want += s
		look(t, p, 3, "whole", want)
	}
}

func TestWhereItBreaks(t *testing.T) {
	for _, x := range []struct {
		n           int
		first, next string
		e1, e2      api.Errno
		state1      string
		out1, out2  string
	}{
		{0, "", "", api.OK, api.OK, "whole", "ab", "ab"},
		{0, "", "f", api.OK, api.ErrGone, "whole", "ab", "ab"},
		{0, "c", "f", api.ErrGone, api.ErrGone, "broken", "ab", "ab"},
		{0, "cde", "", api.ErrGone, api.ErrGone, "broken", "ab", "ab"},
		{1, "", "f", api.OK, api.OK, "whole", "ab", "abf"},
		{1, "", "fg", api.OK, api.ErrGone, "whole", "ab", "abf"},
		{1, "c", "f", api.OK, api.ErrGone, "whole", "abc", "abc"},
		{1, "c", "", api.OK, api.OK, "whole", "abc", "abc"},
		{1, "cde", "f", api.ErrGone, api.ErrGone, "broken", "abc", "abc"},
		{2, "cde", "f", api.ErrGone, api.ErrGone, "broken", "abcd", "abcd"},
		{2, "cde", "", api.ErrGone, api.ErrGone, "broken", "abcd", "abcd"},
		{3, "cde", "", api.OK, api.OK, "whole", "abcde", "abcde"},
		{3, "cde", "f", api.OK, api.ErrGone, "whole", "abcde", "abcde"},
		{4, "cde", "f", api.OK, api.OK, "whole", "abcde", "abcdef"},
		{4, "cde", "fg", api.OK, api.ErrGone, "whole", "abcde", "abcdef"},
		{math.MaxInt, "cde", "f", api.OK, api.OK, "whole", "abcde", "abcdef"},
		{-1, "cde", "f", api.OK, api.OK, "whole", "abcde", "abcdef"},
		{math.MinInt, "cde", "f", api.OK, api.OK, "whole", "abcde", "abcdef"},
	} {
		p := opened(t)
		wants(t, p.Break(3, x.n), api.OK)
		look(t, p, 3, "whole", "ab") // it breaks where something is written, not ahead of that
		if e := p.Write(3, x.first); e != x.e1 {
			t.Errorf("%+v: %d", x, e)
		}
		look(t, p, 3, x.state1, x.out1)
		if e := p.Write(3, x.next); e != x.e2 {
			t.Errorf("%+v: next %d", x, e)
		}
		state2 := "whole"
		if x.e2 != api.OK {
			state2 = "broken"
		}
		look(t, p, 3, state2, x.out2)
	}
}

// However the bytes are told in pieces, the same ones come out.
func TestAllBreaksOfAllPieces(t *testing.T) {
	const text = "abcdefg"
	for n := -2; n <= len(text)+1; n++ {
		for cuts := range 1 << (len(text) - 1) {
			b := newBoth()
			b.open(t, 7, "open")
			b.breakBehind(t, 7, n, "break")
			begin := 0
			for i := range text {
				if i == len(text)-1 || cuts>>i&1 == 1 {
					b.write(t, 7, text[begin:i+1], "break behind "+strconv.Itoa(n)+", write "+text[begin:i+1])
					begin = i + 1
				}
			}
			want := text
			if n >= 0 && n < len(text) {
				want = text[:n]
			}
			if out := b.p.Out(7); out != want {
				t.Fatalf("break behind %d: %q, want %q", n, out, want)
			}
		}
	}
}

func TestBreakOfOneThatWasToBreakAlready(t *testing.T) {
	for _, x := range []struct {
		first, then int
		want        string
	}{
		{2, 4, "abcdef"},
		{4, 2, "abcd"},
		{2, 0, "ab"},
		{0, 2, "abcd"},
		{2, -1, "abcdefghi"},
		{0, -1, "abcdefghi"},
		{0, math.MinInt, "abcdefghi"},
		{-1, 2, "abcd"},
		{2, math.MaxInt, "abcdefghi"},
		{math.MaxInt, 2, "abcd"},
	} {
		p := opened(t)
		wants(t, p.Break(3, x.first), api.OK)
		wants(t, p.Break(3, x.then), api.OK)
		p.Write(3, "cdefghi")
		if out := p.Out(3); out != x.want {
			t.Errorf("%d, then %d: %q, want %q", x.first, x.then, out, x.want)
		}
	}
}

// A break is counted from where it is told on, not from where the connection was opened or a break was told ahead of it.
func TestABreakIsCountedFromWhereItIsTold(t *testing.T) {
	p := opened(t)
	wants(t, p.Break(3, 3), api.OK)
	wants(t, p.Write(3, "cd"), api.OK)
	wants(t, p.Break(3, 3), api.OK)
	wants(t, p.Write(3, "efg"), api.OK)
	look(t, p, 3, "whole", "abcdefg")
	wants(t, p.Break(3, 1), api.OK) // where no byte more was to come out
	wants(t, p.Write(3, "h"), api.OK)
	wants(t, p.Write(3, "i"), api.ErrGone)
	look(t, p, 3, "broken", "abcdefgh")
}

func TestBreakOfOneThatIsClosedOrBroken(t *testing.T) {
	for _, n := range []int{math.MinInt, -1, 0, 1, 5, math.MaxInt} {
		p := closed(t)
		wants(t, p.Break(3, n), api.ErrGone)
		look(t, p, 3, "closed", "ab")
		wants(t, p.Open(3), api.OK)
		wants(t, p.Write(3, "abcdefgh"), api.OK)

		p = broken(t)
		wants(t, p.Break(3, n), api.ErrGone)
		look(t, p, 3, "broken", "ab")
		wants(t, p.Write(3, "c"), api.ErrGone)
		look(t, p, 3, "broken", "ab")
	}
}

func TestCloseOfEach(t *testing.T) {
	for _, p := range []*Pipes{opened(t), broken(t)} {
		wants(t, p.Close(3), api.OK)
		look(t, p, 3, "closed", "ab")
		wants(t, p.Close(3), api.ErrGone)
		look(t, p, 3, "closed", "ab")
		wants(t, p.Write(3, "c"), api.ErrGone)
		wants(t, p.Break(3, 1), api.ErrGone)
		look(t, p, 3, "closed", "ab")
	}
	wants(t, closed(t).Close(3), api.ErrGone)
}

func TestAllAreThoseThatAreOpen(t *testing.T) {
	b := newBoth()
	b.is(t, "none")
	// Steps of 7, and of 11, come by each of the sixteen once.
	for i := range 16 {
		b.open(t, i*7%16, "open")
	}
	if l := b.p.All(); !slices.Equal(l, []int{0, 1, 2, 3, 4, 5, 6, 7, 8, 9, 10, 11, 12, 13, 14, 15}) {
		t.Error(l)
	}
	b.breakBehind(t, 4, 0, "break")
	b.write(t, 4, "x", "broken") // it is open still
	for i := range 16 {
		b.close(t, i*11%16, "close")
	}
	if l := b.p.All(); len(l) != 0 {
		t.Error(l)
	}
}

func TestAllOfAnyOfThem(t *testing.T) {
	for open := range 1 << 16 {
		p := New()
		var want []int
		for id := range 16 {
			if open>>id&1 == 1 {
				p.Open(id)
				want = append(want, id)
			}
		}
		if l := p.All(); !slices.Equal(l, want) {
			t.Fatalf("%v, want %v", l, want)
		}
	}
}

// In whatever row: all rows of a few calls with one connection.
func TestAllShortRowsOfCalls(t *testing.T) {
	steps := []struct {
		name string
		do   func(b both, path string)
	}{
		{"open", func(b both, path string) { b.open(t, 2, path) }},
		{"close", func(b both, path string) { b.close(t, 2, path) }},
		{"write none", func(b both, path string) { b.write(t, 2, "", path) }},
		{"write a", func(b both, path string) { b.write(t, 2, "a", path) }},
		{"write bcd", func(b both, path string) { b.write(t, 2, "bcd", path) }},
		{"break 0", func(b both, path string) { b.breakBehind(t, 2, 0, path) }},
		{"break 1", func(b both, path string) { b.breakBehind(t, 2, 1, path) }},
		{"break 3", func(b both, path string) { b.breakBehind(t, 2, 3, path) }},
		{"break -1", func(b both, path string) { b.breakBehind(t, 2, -1, path) }},
	}
	const length = 5
	var row []int
	var grow func()
	grow = func() {
		if len(row) < length {
			for i := range steps {
				row = append(row, i)
				grow()
				row = row[:len(row)-1]
			}
			return
		}
		b, path := newBoth(), ""
		if row[0] != 0 {
			b.open(t, 2, "open ahead")
		}
		for _, i := range row {
			path += steps[i].name + ", "
			steps[i].do(b, path)
		}
	}
	grow()
}

// drawn answers numbers from 0 up to below n, the same at each run.
func drawn(seed uint64) func(n int) int {
	return func(n int) int {
		seed = seed*6364136223846793005 + 1442695040888963407
		return int((seed >> 33) % uint64(n))
	}
}

func TestLongRowsOfCalls(t *testing.T) {
	for seed := range 40 {
		draw, b := drawn(uint64(seed)), newBoth()
		ids := []int{0, 15, 1, 7, 8}[:1+seed%5]
		for i := range 1000 {
			id := ids[draw(len(ids))]
			path := "seed " + strconv.Itoa(seed) + ", step " + strconv.Itoa(i) + ", " + strconv.Itoa(id)
			switch draw(9) {
			case 0, 1:
				b.open(t, id, path)
			case 2:
				b.close(t, id, path)
			case 3, 4:
				b.breakBehind(t, id, draw(10)-2, path)
			default:
				b.write(t, id, strings.Repeat(strconv.Itoa(i%10), draw(5)), path)
			}
		}
	}
}

// What comes out is a beginning of what was written since it was opened; all of it, where nothing was to break.
func TestABeginningOfWhatWasWritten(t *testing.T) {
	for seed := range 200 {
		draw, p := drawn(uint64(seed)), New()
		breaks := seed%2 == 1
		p.Open(9)
		written, gone := "", false
		for i := range 60 {
			switch {
			case breaks && draw(4) == 0:
				p.Break(9, draw(20)-3)
			default:
				s := strings.Repeat(strconv.Itoa(i), draw(4))
				written += s
				gone = p.Write(9, s) != api.OK
			}
			out := p.Out(9)
			if !strings.HasPrefix(written, out) || !gone && out != written || gone == p.Whole(9) {
				t.Fatalf("seed %d: %q came of %q, gone %v", seed, out, written, gone)
			}
			if gone && !breaks {
				t.Fatalf("seed %d: it broke by itself", seed)
			}
		}
		out := p.Out(9)
		p.Close(9)
		if p.Out(9) != out {
			t.Fatalf("seed %d: closed, %q came", seed, p.Out(9))
		}
	}
}

func TestTwoSideBySide(t *testing.T) {
	p := New()
	wants(t, p.Open(14), api.OK)
	wants(t, p.Open(15), api.OK)
	wants(t, p.Break(14, 3), api.OK)
	wants(t, p.Write(15, "xxxx"), api.OK) // no byte of the other one
	wants(t, p.Write(14, "ab"), api.OK)
	wants(t, p.Write(15, "yy"), api.OK)
	wants(t, p.Write(14, "cd"), api.ErrGone)
	look(t, p, 14, "broken", "abc")
	look(t, p, 15, "whole", "xxxxyy")
	wants(t, p.Close(14), api.OK)
	wants(t, p.Write(15, "z"), api.OK)
	wants(t, p.Open(14), api.OK)
	wants(t, p.Break(15, 0), api.OK)
	wants(t, p.Write(14, "new"), api.OK)
	wants(t, p.Write(15, "w"), api.ErrGone)
	look(t, p, 14, "whole", "new")
	look(t, p, 15, "broken", "xxxxyyz")
}

func TestTwoPipesShareNothing(t *testing.T) {
	a, b := newBoth(), newBoth()
	a.open(t, 0, "one")
	a.write(t, 0, "a", "one")
	b.is(t, "the other")
	b.open(t, 0, "the other")
	b.breakBehind(t, 0, 1, "the other")
	b.write(t, 0, "xy", "the other")
	a.is(t, "one")
	a.write(t, 0, "bc", "one")
	b.close(t, 0, "the other")
	a.is(t, "one")
}

func TestAnswersStayAsTheyWere(t *testing.T) {
	b := newBoth()
	b.open(t, 1, "open")
	b.open(t, 4, "open")
	b.write(t, 1, "abc", "write")
	out, all, again := b.p.Out(1), b.p.All(), b.p.All()
	b.write(t, 1, "def", "write")
	b.close(t, 1, "close")
	b.open(t, 1, "open")
	b.write(t, 1, "xyz", "write")
	b.close(t, 4, "close")
	if out != "abc" || !slices.Equal(all, []int{1, 4}) || !slices.Equal(again, []int{1, 4}) {
		t.Errorf("%q %v %v", out, all, again)
	}
	for i := range all[:cap(all)] {
		all[:cap(all)][i] = 99
	}
	if !slices.Equal(again, []int{1, 4}) {
		t.Errorf("two answers share memory: %v", again)
	}
	b.is(t, "an answer is changed")
}

func TestOfNil(t *testing.T) {
	var p *Pipes
	for _, id := range append([]int{0, 1, 7, 15}, none...) {
		for range 2 {
			wants(t, p.Open(id), api.ErrArg)
			wants(t, p.Write(id, "a"), api.ErrArg)
			wants(t, p.Write(id, ""), api.ErrArg)
			wants(t, p.Break(id, 1), api.ErrArg)
			wants(t, p.Break(id, -1), api.ErrArg)
			wants(t, p.Close(id), api.ErrArg)
		}
		if p.Whole(id) || p.Is(id) || p.Out(id) != "" {
			t.Errorf("%d of nil", id)
		}
	}
	if l := p.All(); len(l) != 0 {
		t.Error(l)
	}
}

// Pipes that New didn't make are all closed too; their calls end, and none panics.
func TestOfPipesThatNewDidNotMake(t *testing.T) {
	b := both{&Pipes{}, make([]model, 16)}
	b.is(t, "at first")
	b.write(t, 0, "a", "write")
	b.open(t, 0, "open")
	b.write(t, 0, "a", "write")
	b.breakBehind(t, 0, 0, "break")
	b.write(t, 0, "b", "write")
	b.close(t, 0, "close")
}

// Bytes one by one, many of them: what came out isn't gone through for each.
func TestManyBytesOneByOne(t *testing.T) {
	p := New()
	p.Open(0)
	p.Break(0, 1<<20)
	for range 1 << 20 {
		wants(t, p.Write(0, "x"), api.OK)
	}
	wants(t, p.Write(0, "y"), api.ErrGone)
	look(t, p, 0, "broken", strings.Repeat("x", 1<<20))
}
