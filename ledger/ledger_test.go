package ledger

import (
	"math"
	"slices"
	"strconv"
	"strings"
	"testing"

	"tidewater/api"
)

const last = math.MaxUint32

// The numbers at which ledgers begin: where they come round within a few steps, and where they don't.
var starts = []uint32{0, 1, 2, 3, 77, 1<<31 - 2, 1<<31 - 1, 1 << 31, last - 64, last - 5, last - 2, last - 1, last}

// round answers the number that n, which doesn't come round, is told as.
func round(n int64) uint32 {
	const all = 1 << 32
	return uint32((n%all + all) % all)
}

// model tells the chapter's words again, by a list that is moved and numbers that don't come round.
type model struct {
	places                int
	open                  []string
	sent, confirmed, came int64
}

func (m *model) send(s string) api.Errno {
	if len(m.open) == m.places {
		return api.ErrOver
	}
	m.open = append(slices.Clone(m.open), s)
	m.sent++
	return api.OK
}

func (m *model) confirm(h uint32) (int, api.Errno) {
	for n := range len(m.open) + 1 {
		if round(m.confirmed+int64(n)) == h {
			m.open = slices.Clone(m.open[n:])
			m.confirmed += int64(n)
			return n, api.OK
		}
	}
	return 0, api.ErrRange
}

func (m *model) take(n int) uint32 {
	if n >= 1 {
		m.came = int64(round(m.came)) + int64(round(int64(n)))
	}
	return round(m.came)
}

func (m *model) again(h uint32) ([]string, api.Errno) {
	if _, e := m.confirm(h); e != api.OK {
		return nil, e
	}
	return m.open, api.OK
}

func (m *model) undo(n int) bool {
	if n < 0 || n > len(m.open) {
		return false
	}
	m.open = slices.Clone(m.open[:len(m.open)-n])
	m.sent -= int64(n)
	return true
}

// both has a call done with the ledger and the model, and fails if they answer otherwise or aren't the same behind it.
type both struct {
	l *Ledger
	m *model
}

func newBoth(places int, start uint32) both {
	n := int64(start)
	return both{New(places, start), &model{places: places, sent: n, confirmed: n, came: n}}
}

func (b both) same(t *testing.T, path string) {
	t.Helper()
	if got, want := b.l.Sent(), round(b.m.sent); got != want {
		t.Fatalf("%s: sent %d, want %d", path, got, want)
	}
	if got, want := b.l.Confirmed(), round(b.m.confirmed); got != want {
		t.Fatalf("%s: confirmed %d, want %d", path, got, want)
	}
	if got, want := b.l.Came(), round(b.m.came); got != want {
		t.Fatalf("%s: came %d, want %d", path, got, want)
	}
	if got := b.l.Open(); !slices.Equal(got, b.m.open) {
		t.Fatalf("%s: open %q, want %q", path, got, b.m.open)
	}
}

func (b both) send(t *testing.T, s, path string) {
	t.Helper()
	if got, want := b.l.Send(s), b.m.send(s); got != want {
		t.Fatalf("%s: send %d, want %d", path, got, want)
	}
	b.same(t, path)
}

func (b both) confirm(t *testing.T, h uint32, path string) {
	t.Helper()
	n, e := b.l.Confirm(h)
	if want, wantE := b.m.confirm(h); n != want || e != wantE {
		t.Fatalf("%s: confirm %d: %d, error %d, want %d, error %d", path, h, n, e, want, wantE)
	}
	b.same(t, path)
}

func (b both) take(t *testing.T, n int, path string) {
	t.Helper()
	if got, want := b.l.Take(n), b.m.take(n); got != want {
		t.Fatalf("%s: take %d: %d, want %d", path, n, got, want)
	}
	b.same(t, path)
}

func (b both) again(t *testing.T, h uint32, path string) {
	t.Helper()
	l, e := b.l.Again(h)
	if want, wantE := b.m.again(h); !slices.Equal(l, want) || e != wantE {
		t.Fatalf("%s: again %d: %q, error %d, want %q, error %d", path, h, l, e, want, wantE)
	}
	b.same(t, path)
}

func (b both) undo(t *testing.T, n int, path string) {
	t.Helper()
	if got, want := b.l.Undo(n), b.m.undo(n); got != want {
		t.Fatalf("%s: undo %d: %v, want %v", path, n, got, want)
	}
	b.same(t, path)
}

// filled answers a ledger of which so many are confirmed, and so many more are open.
func filled(t *testing.T, places int, start uint32, confirmed, open int) both {
	t.Helper()
	b := newBoth(places, start)
	for i := range confirmed {
		b.send(t, "ahead "+strconv.Itoa(i), "ahead")
		b.confirm(t, round(b.m.sent), "ahead")
	}
	for i := range open {
		b.send(t, strconv.Itoa(i), "fill")
	}
	return b
}

// everyFilling has a step done with ledgers of few places, wherever they begin, the ring's first text lies, and however many are open.
func everyFilling(t *testing.T, step func(b func() both, path string)) {
	for _, start := range starts {
		for places := 1; places <= 4; places++ {
			for confirmed := range places + 1 {
				for open := range places + 1 {
					path := strconv.Itoa(places) + " places from " + strconv.FormatUint(uint64(start), 10) +
						", " + strconv.Itoa(confirmed) + " confirmed, " + strconv.Itoa(open) + " open"
					step(func() both { return filled(t, places, start, confirmed, open) }, path)
				}
			}
		}
	}
}

// numbersAround answers each number from before the confirmed one to behind the sent one, and some that are far from both.
func numbersAround(m *model) []uint32 {
	l := []uint32{0, 1, last - 1, last}
	for n := m.confirmed - 4; n <= m.sent+4; n++ {
		l = append(l, round(n))
	}
	for _, far := range []int64{64, 65, 1 << 16, 1<<31 - 1, 1 << 31, 1<<31 + 1} {
		l = append(l, round(m.confirmed+far), round(m.confirmed-far), round(m.sent+far), round(m.sent-far))
	}
	return l
}

// drawn answers numbers from 0 up to below n, the same at each run.
func drawn(seed uint64) func(n int) int {
	return func(n int) int {
		seed = seed*6364136223846793005 + 1442695040888963407
		return int((seed >> 33) % uint64(n))
	}
}

func TestTheChaptersExample(t *testing.T) {
	l := New(2, 4294967295)
	if l.Send("a") != api.OK || l.Send("b") != api.OK || l.Sent() != 1 {
		t.Error("sent", l.Sent())
	}
	if n, e := l.Confirm(0); n != 1 || e != api.OK {
		t.Error("confirm 0:", n, e)
	}
	if open := l.Open(); !slices.Equal(open, []string{"b"}) || l.Confirmed() != 0 || l.Sent() != 1 {
		t.Error(open, l.Confirmed(), l.Sent())
	}
}

func TestNewHasPlacesAndOneStart(t *testing.T) {
	for n, places := range map[int]int{
		math.MinInt: 1, -64: 1, -1: 1, 0: 1, 1: 1, 2: 2, 12: 12, 63: 63, 64: 64, 65: 64, 128: 64, 1 << 32: 64, math.MaxInt: 64,
	} {
		for _, start := range starts {
			l := New(n, start)
			if l.Sent() != start || l.Confirmed() != start || l.Came() != start || len(l.Open()) != 0 {
				t.Fatalf("new of %d, %d: %d %d %d %q", n, start, l.Sent(), l.Confirmed(), l.Came(), l.Open())
			}
			for i := range places {
				if e := l.Send(strconv.Itoa(i)); e != api.OK {
					t.Fatalf("new of %d: error %d at text %d", n, e, i)
				}
			}
			if e := l.Send("more"); e != api.ErrOver {
				t.Fatalf("new of %d: error %d of a text more than places", n, e)
			}
			if l.Sent() != round(int64(start)+int64(places)) || l.Confirmed() != start || l.Came() != start {
				t.Fatalf("new of %d, %d, full: %d %d %d", n, start, l.Sent(), l.Confirmed(), l.Came())
			}
		}
	}
}

func TestSendOneMore(t *testing.T) {
	everyFilling(t, func(b func() both, path string) {
		x := b()
		for i := range x.m.places + 2 {
			x.send(t, "more "+strconv.Itoa(i), path)
		}
		x.send(t, "", path)
		x.confirm(t, round(x.m.confirmed+1), path)
		x.send(t, "in its place", path)
		x.send(t, "none", path)
	})
}

func TestSendWhereTheRingIsFull(t *testing.T) {
	l := New(2, last)
	l.Send("a")
	l.Send("b")
	for range 3 {
		if e := l.Send("c"); e != api.ErrOver {
			t.Error(e)
		}
	}
	if !slices.Equal(l.Open(), []string{"a", "b"}) || l.Sent() != 1 || l.Confirmed() != last || l.Came() != last {
		t.Error(l.Open(), l.Sent(), l.Confirmed(), l.Came())
	}
	l.Confirm(0)
	if e := l.Send("d"); e != api.OK || !slices.Equal(l.Open(), []string{"b", "d"}) {
		t.Error(e, l.Open())
	}
}

func TestConfirmOfEachNumber(t *testing.T) {
	everyFilling(t, func(b func() both, path string) {
		for _, h := range numbersAround(b().m) {
			x := b()
			x.confirm(t, h, path)
			x.confirm(t, h, path)
			x.send(t, "next", path)
			x.confirm(t, round(x.m.sent), path)
		}
	})
}

func TestConfirmInWords(t *testing.T) {
	for _, x := range []struct {
		start, h uint32
		more     int
		e        api.Errno
		open     string
	}{
		{5, 5, 0, api.OK, "abc"}, // the confirmed number
		{5, 6, 1, api.OK, "bc"},
		{5, 7, 2, api.OK, "c"},
		{5, 8, 3, api.OK, ""}, // the sent one
		{5, 9, 0, api.ErrRange, "abc"},
		{5, 4, 0, api.ErrRange, "abc"},
		{5, 0, 0, api.ErrRange, "abc"},
		{5, last, 0, api.ErrRange, "abc"},
		{0, 0, 0, api.OK, "abc"},
		{0, 3, 3, api.OK, ""},
		{0, 4, 0, api.ErrRange, "abc"},
		{0, last, 0, api.ErrRange, "abc"},
		{last, last, 0, api.OK, "abc"}, // the numbers come round
		{last, 0, 1, api.OK, "bc"},
		{last, 1, 2, api.OK, "c"},
		{last, 2, 3, api.OK, ""},
		{last, 3, 0, api.ErrRange, "abc"},
		{last, last - 1, 0, api.ErrRange, "abc"},
		{last - 2, last, 2, api.OK, "c"},
		{last - 2, 0, 3, api.OK, ""},
		{last - 2, 1, 0, api.ErrRange, "abc"},
		{last - 3, last, 3, api.OK, ""},
		{last - 3, 0, 0, api.ErrRange, "abc"},
	} {
		l := New(4, x.start)
		for _, s := range []string{"a", "b", "c"} {
			l.Send(s)
		}
		if n, e := l.Confirm(x.h); n != x.more || e != x.e || strings.Join(l.Open(), "") != x.open {
			t.Errorf("from %d, confirm %d: %d, error %d, open %q", x.start, x.h, n, e, l.Open())
		}
		confirmed := x.start
		if x.e == api.OK {
			confirmed = x.h
		}
		if l.Confirmed() != confirmed || l.Sent() != round(int64(x.start)+3) || l.Came() != x.start {
			t.Errorf("from %d, confirm %d: then %d %d %d", x.start, x.h, l.Confirmed(), l.Sent(), l.Came())
		}
	}
}

// What was confirmed lies ahead of the range then: none is confirmed twice.
func TestConfirmGoesOnlyOn(t *testing.T) {
	l := New(3, last-1)
	for _, s := range []string{"a", "b", "c"} {
		l.Send(s)
	}
	l.Confirm(0)
	for _, h := range []uint32{last - 1, last} {
		if n, e := l.Confirm(h); n != 0 || e != api.ErrRange {
			t.Errorf("%d: %d, error %d", h, n, e)
		}
	}
	if n, e := l.Confirm(0); n != 0 || e != api.OK || !slices.Equal(l.Open(), []string{"c"}) {
		t.Error(n, e, l.Open())
	}
}

func TestTakeOfNumbers(t *testing.T) {
	numbers := []int{math.MinInt, math.MinInt + 1, -1 << 32, -2, -1, 0, 1, 2, 64, 1<<31 - 1, 1 << 31, 1<<32 - 1, 1 << 32, 1<<32 + 1, math.MaxInt - 1, math.MaxInt}
	everyFilling(t, func(b func() both, path string) {
		x := b()
		for _, n := range numbers {
			x.take(t, n, path)
			x.take(t, 1, path)
		}
	})
}

func TestTakeInWords(t *testing.T) {
	for _, x := range []struct {
		start uint32
		n     int
		want  uint32
	}{
		{7, math.MinInt, 7},
		{7, -1, 7},
		{7, 0, 7},
		{7, 1, 8},
		{7, 100, 107},
		{7, 1 << 32, 7},
		{7, 1<<32 + 2, 9},
		{7, math.MaxInt, 6},
		{0, math.MaxInt, last},
		{0, -1, 0},
		{last, 0, last},
		{last, 1, 0},
		{last, 3, 2},
		{last, -3, last},
		{last, 1 << 32, last},
		{last, math.MaxInt, last - 1},
		{last, math.MinInt, last},
	} {
		l := New(2, x.start)
		if got := l.Take(x.n); got != x.want || l.Came() != x.want {
			t.Errorf("from %d, take %d: %d, then %d, want %d", x.start, x.n, got, l.Came(), x.want)
		}
		if l.Sent() != x.start || l.Confirmed() != x.start || len(l.Open()) != 0 {
			t.Errorf("from %d, take %d: sent %d, confirmed %d", x.start, x.n, l.Sent(), l.Confirmed())
		}
	}
}

func TestAgainAtEachNumber(t *testing.T) {
	everyFilling(t, func(b func() both, path string) {
		for _, h := range numbersAround(b().m) {
			x := b()
			x.again(t, h, path)
			x.again(t, h, path)
			x.send(t, "next", path)
			x.again(t, h, path)
			x.again(t, round(x.m.sent), path)
		}
	})
}

func TestAgainInWords(t *testing.T) {
	l := New(3, last)
	for _, s := range []string{"a", "b", "c"} {
		l.Send(s)
	}
	for _, x := range []struct {
		h    uint32
		e    api.Errno
		told string
	}{
		{last - 1, api.ErrRange, ""},
		{3, api.ErrRange, ""},
		{last, api.OK, "abc"},
		{last, api.OK, "abc"},
		{0, api.OK, "bc"},
		{last, api.ErrRange, ""},
		{2, api.OK, ""},
		{1, api.ErrRange, ""},
	} {
		if told, e := l.Again(x.h); e != x.e || strings.Join(told, "") != x.told {
			t.Errorf("again %d: %q, error %d", x.h, told, e)
		}
	}
}

func TestUndoOfNumbers(t *testing.T) {
	everyFilling(t, func(b func() both, path string) {
		open := len(b().m.open)
		for _, n := range []int{math.MinInt, -64, -2, -1, 0, 1, 2, open - 1, open, open + 1, open + 2, 64, 65, 1 << 32, 1<<32 + 1, math.MaxInt} {
			x := b()
			x.undo(t, n, path)
			x.send(t, "instead", path)
			x.undo(t, 1, path)
			x.undo(t, n, path)
			x.confirm(t, round(x.m.sent), path)
			x.undo(t, 1, path)
			x.undo(t, 0, path)
		}
	})
}

func TestUndoInWords(t *testing.T) {
	l := New(3, last-1)
	for _, s := range []string{"a", "b", "c"} {
		l.Send(s)
	}
	if l.Undo(-1) || l.Undo(4) || !l.Undo(0) || l.Sent() != 1 || !slices.Equal(l.Open(), []string{"a", "b", "c"}) {
		t.Error(l.Sent(), l.Open())
	}
	if !l.Undo(2) || l.Sent() != last || !slices.Equal(l.Open(), []string{"a"}) || l.Confirmed() != last-1 {
		t.Error(l.Sent(), l.Open(), l.Confirmed())
	}
	if _, e := l.Confirm(0); e != api.ErrRange {
		t.Error("what was undone is confirmed:", e)
	}
	l.Send("d")
	if l.Sent() != 0 || !slices.Equal(l.Open(), []string{"a", "d"}) {
		t.Error(l.Sent(), l.Open())
	}
	l.Confirm(last)
	if l.Undo(2) || !l.Undo(1) || l.Sent() != last || len(l.Open()) != 0 || l.Undo(1) || !l.Undo(0) {
		t.Error("what is confirmed is undone:", l.Sent(), l.Open())
	}
}

// In whatever row, wherever it begins: all rows of a few calls, with few places.
func TestAllShortRowsOfCalls(t *testing.T) {
	type step struct {
		name string
		do   func(b both, s, path string)
	}
	steps := []step{
		{"send", func(b both, s, path string) { b.send(t, s, path) }},
		{"take 1", func(b both, s, path string) { b.take(t, 1, path) }},
		{"again behind the sent one", func(b both, s, path string) { b.again(t, round(b.m.sent+1), path) }},
		{"again of the sent one", func(b both, s, path string) { b.again(t, round(b.m.sent), path) }},
	}
	for _, n := range []int{-1, 0, 1, 2} {
		steps = append(steps,
			step{"confirm " + strconv.Itoa(n), func(b both, s, path string) { b.confirm(t, round(b.m.confirmed+int64(n)), path) }},
			step{"undo " + strconv.Itoa(n), func(b both, s, path string) { b.undo(t, n, path) }})
	}
	const length = 4
	var row []step
	var grow func()
	grow = func() {
		if len(row) < length {
			for _, s := range steps {
				row = append(row, s)
				grow()
				row = row[:len(row)-1]
			}
			return
		}
		for _, start := range []uint32{0, last - 1} {
			// A send ahead of each step has the ring fuller.
			for sends := range 2 {
				b, path := newBoth(2, start), "from "+strconv.FormatUint(uint64(start), 10)+": "
				for i, s := range row {
					path += s.name + ", "
					for range sends {
						b.send(t, "p"+strconv.Itoa(i), path)
					}
					s.do(b, "s"+strconv.Itoa(i), path)
				}
			}
		}
	}
	grow()
}

func TestLongRowsOfCalls(t *testing.T) {
	for places := 1; places <= 64; places++ {
		start := starts[places%len(starts)]
		draw, b := drawn(uint64(places)), newBoth(places, start)
		for i := range 1500 {
			path := strconv.Itoa(places) + " places from " + strconv.FormatUint(uint64(start), 10) + ", step " + strconv.Itoa(i)
			near := round(b.m.confirmed + int64(draw(places+5)-2))
			switch draw(9) {
			case 0, 1:
				b.confirm(t, near, path)
			case 2:
				b.again(t, near, path)
			case 3:
				b.undo(t, draw(places+3)-1, path)
			case 4:
				b.take(t, draw(6)-2, path)
			default:
				for k := range draw(places + 2) {
					b.send(t, strconv.Itoa(i)+"."+strconv.Itoa(k), path)
				}
			}
		}
	}
}

// end is one end of a line: what it sent, what it has got, and what is on its way from it.
type end struct {
	l         *Ledger
	sent, got []string
	wire      []string
}

// line is two ends, each of which counts by its ledger all that it gets of the other.
type line struct {
	ends [2]*end
	up   bool
}

func newLine(places int, start uint32) *line {
	return &line{ends: [2]*end{{l: New(places, start)}, {l: New(places, start)}}, up: true}
}

func (l *line) send(from int, s string) {
	e := l.ends[from]
	if e.l.Send(s) != api.OK {
		return
	}
	e.sent = append(e.sent, s)
	if l.up {
		e.wire = append(e.wire, s)
	}
}

func (l *line) deliver(from, n int) {
	e, other := l.ends[from], l.ends[1-from]
	n = min(n, len(e.wire))
	other.got = append(other.got, e.wire[:n]...)
	other.l.Take(n)
	e.wire = slices.Clone(e.wire[n:])
}

// drop loses what is on its way.
func (l *line) drop() {
	l.up = false
	for _, e := range l.ends {
		e.wire = nil
	}
}

// takeBack has the last ones of those that the other end hasn't got as never sent.
func (l *line) takeBack(t *testing.T, from, n int) {
	t.Helper()
	// While the line is up, they may be on their way.
	if l.up {
		return
	}
	e := l.ends[from]
	n = min(n, len(e.sent)-len(l.ends[1-from].got))
	if !e.l.Undo(n) {
		t.Fatalf("undo %d of %q", n, e.l.Open())
	}
	e.sent = slices.Clone(e.sent[:len(e.sent)-n])
}

// resume has each end tell again what the other hasn't counted.
func (l *line) resume(t *testing.T) {
	t.Helper()
	l.drop()
	for i, e := range l.ends {
		other := l.ends[1-i]
		texts, err := e.l.Again(other.l.Came())
		if err != api.OK {
			t.Fatalf("again of %d: error %d, confirmed %d, sent %d", other.l.Came(), err, e.l.Confirmed(), e.l.Sent())
		}
		if !slices.Equal(slices.Concat(other.got, texts), e.sent) {
			t.Fatalf("got %q and told %q, want %q", other.got, texts, e.sent)
		}
		e.wire = texts
	}
	l.up = true
}

// confirm has an end told what the other has counted by now.
func (l *line) confirm(t *testing.T, to int) {
	t.Helper()
	e, other := l.ends[to], l.ends[1-to]
	if !l.up {
		return
	}
	open := len(e.l.Open())
	n, err := e.l.Confirm(other.l.Came())
	if err != api.OK || len(e.l.Open()) != open-n || len(e.sent)-len(other.got) != open-n {
		t.Fatalf("confirm %d: %d, error %d, open %q", other.l.Came(), n, err, e.l.Open())
	}
}

// finish has all that is still missing come, and fails if an end has got anything but what the other sent.
func (l *line) finish(t *testing.T, path string) {
	t.Helper()
	l.resume(t)
	for i, e := range l.ends {
		l.deliver(i, len(e.wire))
		l.confirm(t, i)
		other := l.ends[1-i]
		if !slices.Equal(other.got, e.sent) || e.l.Sent() != other.l.Came() || len(e.l.Open()) != 0 {
			t.Fatalf("%s: got %q, want %q", path, other.got, e.sent)
		}
	}
}

func TestALineThatBreaksAgainAndAgain(t *testing.T) {
	for _, start := range []uint32{0, 1, 1<<31 - 3, last - 70, last - 3, last - 1, last} {
		for _, places := range []int{1, 2, 3, 12, 64} {
			draw, l := drawn(uint64(start)+uint64(places)), newLine(places, start)
			for i := range 6000 {
				side := draw(2)
				switch draw(10) {
				case 0:
					l.drop()
				case 1:
					l.resume(t)
				case 2:
					l.confirm(t, side)
				case 3:
					l.takeBack(t, side, draw(3))
				case 4, 5, 6:
					l.deliver(side, draw(places+1))
				default:
					l.send(side, strconv.Itoa(i))
				}
			}
			if len(l.ends[0].sent) < 50 || len(l.ends[1].sent) < 50 {
				t.Fatalf("%d and %d texts are too few", len(l.ends[0].sent), len(l.ends[1].sent))
			}
			l.finish(t, strconv.Itoa(places)+" places from "+strconv.FormatUint(uint64(start), 10))
		}
	}
}

// All short rows of what may happen on a line, where the numbers come round.
func TestAllShortRowsOnALine(t *testing.T) {
	steps := []func(l *line, s string){
		func(l *line, s string) { l.send(0, s) },
		func(l *line, s string) { l.send(1, s) },
		func(l *line, s string) { l.deliver(0, 1) },
		func(l *line, s string) { l.confirm(t, 0) },
		func(l *line, s string) { l.drop() },
		func(l *line, s string) { l.takeBack(t, 0, 1) },
		func(l *line, s string) { l.resume(t) },
	}
	const length = 6
	rows := 1
	for range length {
		rows *= len(steps)
	}
	for row := range rows {
		l, rest := newLine(2, last-1), row
		for i := range length {
			steps[rest%len(steps)](l, strconv.Itoa(i))
			rest /= len(steps)
		}
		l.finish(t, "row "+strconv.Itoa(row))
	}
}

// A count that was told long ago, or never could be, has nothing told again and loses nothing.
func TestWrongCountsLoseNothing(t *testing.T) {
	for _, start := range starts {
		l := newLine(3, start)
		for i := range 100 {
			l.send(0, strconv.Itoa(i))
			l.deliver(0, i%2)
			l.confirm(t, 0)
			x := l.ends[0].l
			for _, h := range []uint32{round(int64(x.Confirmed()) - 1), round(int64(x.Sent()) + 1), round(int64(x.Sent()) + 1<<31)} {
				if texts, e := x.Again(h); len(texts) != 0 || e != api.ErrRange {
					t.Fatalf("again %d of %d to %d: %q, error %d", h, x.Confirmed(), x.Sent(), texts, e)
				}
			}
			if i%5 == 0 {
				l.resume(t)
			}
		}
		l.finish(t, "wrong counts")
	}
}

func TestOfNil(t *testing.T) {
	var l *Ledger
	for _, n := range []int{math.MinInt, -1, 0, 1, 64, 1 << 32, math.MaxInt} {
		if got := l.Take(n); got != 0 {
			t.Errorf("take %d: %d", n, got)
		}
		if l.Undo(n) {
			t.Errorf("undo %d", n)
		}
	}
	for _, h := range starts {
		if n, e := l.Confirm(h); n != 0 || e != api.ErrArg {
			t.Errorf("confirm %d: %d, error %d", h, n, e)
		}
		if texts, e := l.Again(h); len(texts) != 0 || e != api.ErrArg {
			t.Errorf("again %d: %q, error %d", h, texts, e)
		}
	}
	for _, s := range []string{"", "a"} {
		if e := l.Send(s); e != api.ErrArg {
			t.Errorf("send %q: error %d", s, e)
		}
	}
	if l.Sent() != 0 || l.Confirmed() != 0 || l.Came() != 0 || len(l.Open()) != 0 {
		t.Error("a nil ledger has something")
	}
}

// A ledger that New didn't make has no places, and begins at 0; its calls end, and none panics.
func TestOfNoPlaces(t *testing.T) {
	b := both{&Ledger{}, &model{}}
	for _, n := range []int{math.MinInt, -1, 0, 1, 64, math.MaxInt} {
		b.send(t, "a", "no places")
		b.undo(t, n, "no places")
		b.confirm(t, uint32(n), "no places")
		b.again(t, uint32(n), "no places")
		b.take(t, n, "no places")
	}
}

// A text may be any: none of its bytes tells the ledger anything.
func TestTextsOfAllKinds(t *testing.T) {
	texts := []string{"", "", "a", "a", "\x00", "\xff\xfe", "é€😀", "<presence/>", " \n", strings.Repeat("long ", 1<<16), ""}
	for _, places := range []int{1, 2, 3, 64} {
		b := newBoth(places, last-1)
		for range 3 {
			for _, s := range texts {
				b.send(t, s, "send")
				if len(b.m.open) == places {
					b.confirm(t, round(b.m.confirmed+int64(places+1)/2), "confirm")
				}
			}
			b.undo(t, places/2, "undo")
			b.again(t, round(b.m.confirmed), "again")
		}
	}
}

func TestWhoChangesAnAnswerChangesNoLedger(t *testing.T) {
	spoil := func(l []string) {
		l = append(l, "beyond")
		spare := l[:cap(l)]
		for i := range spare {
			spare[i] = "changed"
		}
	}
	everyFilling(t, func(b func() both, path string) {
		x := b()
		spoil(x.l.Open())
		x.same(t, path)
		told, _ := x.l.Again(x.l.Confirmed())
		spoil(told)
		x.same(t, path)
		x.send(t, "next", path)
	})
}

func TestAnswersStayAsTheyWere(t *testing.T) {
	l := New(3, 0)
	for _, s := range []string{"a", "b", "c"} {
		l.Send(s)
	}
	abc := []string{"a", "b", "c"}
	open, other := l.Open(), l.Open()
	told, _ := l.Again(0)
	l.Undo(1)
	l.Confirm(1)
	l.Send("d")
	l.Send("e")
	if !slices.Equal(open, abc) || !slices.Equal(other, abc) || !slices.Equal(told, abc) {
		t.Errorf("%q %q %q", open, other, told)
	}
	if len(open) == 3 {
		open[0] = "changed"
	}
	if !slices.Equal(other, abc) || !slices.Equal(told, abc) {
		t.Errorf("two answers share memory: %q %q", other, told)
	}
}

func TestTwoLedgersShareNothing(t *testing.T) {
	a, b := newBoth(2, last), newBoth(2, last)
	a.send(t, "a", "one")
	a.take(t, 3, "one")
	b.same(t, "the other")
	b.send(t, "b", "the other")
	b.send(t, "c", "the other")
	a.confirm(t, 0, "one")
	b.same(t, "the other")
	b.undo(t, 1, "the other")
	b.take(t, 1, "the other")
	a.same(t, "one")
}

// The ring's calls are the ledger's too, and tell of the texts that are open.
func TestTheRingsCallsArePromoted(t *testing.T) {
	l := New(2, last)
	l.Send("a")
	l.Send("b")
	l.Confirm(0)
	first, ok := l.At(0)
	if l.Len() != 1 || l.Places() != 2 || first != "b" || !ok || !slices.Equal(l.List(), l.Open()) {
		t.Error(l.Len(), l.Places(), first, ok, l.List())
	}
}
