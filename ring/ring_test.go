package ring

import (
	"math"
	"slices"
	"strconv"
	"strings"
	"testing"
)

// model tells the chapter's words again, by a list that is moved and no places.
type model struct {
	places int
	texts  []string
}

func (m *model) push(s string) bool {
	if len(m.texts) == m.places {
		return false
	}
	m.texts = append(slices.Clone(m.texts), s)
	return true
}

func (m *model) drop(n int) bool {
	if n < 0 || len(m.texts) < n {
		return false
	}
	m.texts = slices.Clone(m.texts[n:])
	return true
}

func (m *model) cut(n int) []string {
	var kept, gone []string
	for i, s := range m.texts {
		if i < n {
			kept = append(kept, s)
		} else {
			gone = append(gone, s)
		}
	}
	m.texts = kept
	return gone
}

// sameAs fails if a call that changes nothing answers otherwise than the model.
func sameAs(t *testing.T, r *Ring, m *model, path string) {
	t.Helper()
	if r.Len() != len(m.texts) || r.Places() != m.places {
		t.Fatalf("%s: %d of %d, want %d of %d", path, r.Len(), r.Places(), len(m.texts), m.places)
	}
	if l := r.List(); !slices.Equal(l, m.texts) {
		t.Fatalf("%s: %q, want %q", path, l, m.texts)
	}
	for i, want := range m.texts {
		if s, ok := r.At(i); s != want || !ok {
			t.Fatalf("%s: at %d %q %v, want %q", path, i, s, ok, want)
		}
	}
	for _, i := range []int{-1, -2, -m.places, len(m.texts), len(m.texts) + 1, m.places, m.places + 1, math.MinInt, math.MaxInt} {
		if i >= 0 && i < len(m.texts) {
			continue
		}
		if s, ok := r.At(i); s != "" || ok {
			t.Fatalf("%s: at %d %q %v, want none", path, i, s, ok)
		}
	}
}

// both has a step done with the ring and the model, and fails if they answer otherwise or aren't the same behind it.
type both struct {
	r *Ring
	m *model
}

func newBoth(places int) both { return both{New(places), &model{places: places}} }

func (b both) push(t *testing.T, s, path string) {
	t.Helper()
	if got, want := b.r.Push(s), b.m.push(s); got != want {
		t.Fatalf("%s: push %v, want %v", path, got, want)
	}
	sameAs(t, b.r, b.m, path)
}

func (b both) drop(t *testing.T, n int, path string) {
	t.Helper()
	if got, want := b.r.Drop(n), b.m.drop(n); got != want {
		t.Fatalf("%s: drop %d %v, want %v", path, n, got, want)
	}
	sameAs(t, b.r, b.m, path)
}

func (b both) cut(t *testing.T, n int, path string) {
	t.Helper()
	if got, want := b.r.Cut(n), b.m.cut(n); !slices.Equal(got, want) {
		t.Fatalf("%s: cut %d %q, want %q", path, n, got, want)
	}
	sameAs(t, b.r, b.m, path)
}

// filled answers a ring whose first text lies in the place turn, and the texts "0", "1", .. in it.
func filled(t *testing.T, places, turn, count int) both {
	t.Helper()
	b := newBoth(places)
	for range turn {
		b.push(t, "ahead", "turn")
		b.drop(t, 1, "turn")
	}
	for i := range count {
		b.push(t, strconv.Itoa(i), "fill")
	}
	return b
}

// everyFilling has a step done with each ring of few places, wherever its first text lies and however many there are.
func everyFilling(t *testing.T, step func(b func() both, places, count int)) {
	for places := 1; places <= 5; places++ {
		for turn := range places {
			for count := range places + 1 {
				step(func() both { return filled(t, places, turn, count) }, places, count)
			}
		}
	}
}

func TestNewHasOneTo64Places(t *testing.T) {
	want := func(n int) int {
		switch {
		case n < 1:
			return 1
		case n > 64:
			return 64
		}
		return n
	}
	sizes := []int{math.MinInt, math.MinInt + 1, math.MinInt32, 100, 128, 1 << 20, math.MaxInt32, 1 << 32, 1<<32 + 5, math.MaxInt - 1, math.MaxInt}
	for n := -3; n <= 70; n++ {
		sizes = append(sizes, n)
	}
	for _, n := range sizes {
		r := New(n)
		sameAs(t, r, &model{places: want(n)}, "new of "+strconv.Itoa(n))
		for i := range want(n) {
			if !r.Push(strconv.Itoa(i)) {
				t.Fatalf("new of %d: no place for text %d", n, i)
			}
		}
		if r.Push("more") || r.Len() != want(n) {
			t.Fatalf("new of %d: a text more than places", n)
		}
	}
	for n, places := range map[int]int{math.MinInt: 1, -1: 1, 0: 1, 1: 1, 2: 2, 63: 63, 64: 64, 65: 64, math.MaxInt: 64} {
		if got := New(n).Places(); got != places {
			t.Errorf("new of %d: %d places, want %d", n, got, places)
		}
	}
}

func TestTheChaptersExample(t *testing.T) {
	r := New(2)
	if !r.Push("a") || !r.Push("b") || r.Push("c") {
		t.Error("pushes")
	}
	if !slices.Equal(r.List(), []string{"a", "b"}) {
		t.Error(r.List())
	}
	if !r.Drop(1) || !r.Push("c") || !slices.Equal(r.List(), []string{"b", "c"}) {
		t.Error(r.List())
	}
}

func TestPushWhereNoPlaceIsLeft(t *testing.T) {
	everyFilling(t, func(b func() both, places, count int) {
		x := b()
		for i := range places + 2 {
			x.push(t, "more "+strconv.Itoa(i), "push behind "+strconv.Itoa(count))
		}
		if x.r.Len() != places {
			t.Fatalf("%d of %d", x.r.Len(), places)
		}
		x.drop(t, 1, "one goes")
		x.push(t, "in its place", "one comes")
		x.push(t, "none", "no more")
	})
}

func TestDropTakesTheFirstOnes(t *testing.T) {
	everyFilling(t, func(b func() both, places, count int) {
		for _, n := range []int{math.MinInt, -64, -2, -1, 0, 1, 2, count - 1, count, count + 1, places, places + 1, 2 * places, 64, 65, 1 << 32, math.MaxInt} {
			path := "drop " + strconv.Itoa(n) + " of " + strconv.Itoa(count)
			x := b()
			x.drop(t, n, path)
			x.push(t, "next", path)
			x.drop(t, x.r.Len(), path)
			x.drop(t, 0, path)
			x.drop(t, 1, path)
		}
	})
}

func TestDropOfAFewInWords(t *testing.T) {
	r := New(3)
	r.Push("a")
	r.Push("b")
	if r.Drop(-1) || r.Drop(3) || !r.Drop(0) || !slices.Equal(r.List(), []string{"a", "b"}) {
		t.Error(r.List())
	}
	if !r.Drop(2) || r.Len() != 0 || len(r.List()) != 0 || r.Drop(1) || !r.Drop(0) {
		t.Error(r.List())
	}
}

func TestAtOfPlacesAroundTheTexts(t *testing.T) {
	r := New(3)
	for _, s := range []string{"a", "b", "c"} {
		r.Push(s)
	}
	r.Drop(2)
	r.Push("d") // in the first place
	for i, want := range map[int]string{0: "c", 1: "d"} {
		if s, ok := r.At(i); s != want || !ok {
			t.Errorf("%d: %q %v", i, s, ok)
		}
	}
	for _, i := range []int{math.MinInt, -3, -1, 2, 3, 4, 64, math.MaxInt} {
		if s, ok := r.At(i); s != "" || ok {
			t.Errorf("%d: %q %v", i, s, ok)
		}
	}
}

func TestListOfNone(t *testing.T) {
	r := New(2)
	if l := r.List(); len(l) != 0 {
		t.Error(l)
	}
	r.Push("a")
	r.Push("b")
	r.Drop(2)
	if l := r.List(); len(l) != 0 {
		t.Error(l)
	}
	r.Push("c")
	r.Cut(0)
	if l := r.List(); len(l) != 0 {
		t.Error(l)
	}
}

func TestCutTakesTheLastOnes(t *testing.T) {
	everyFilling(t, func(b func() both, places, count int) {
		for _, n := range []int{math.MinInt, -64, -2, -1, 0, 1, 2, count - 1, count, count + 1, places, places + 1, 2 * places, 64, 65, 1 << 32, math.MaxInt} {
			path := "cut " + strconv.Itoa(n) + " of " + strconv.Itoa(count)
			x := b()
			x.cut(t, n, path)
			x.cut(t, n, path)
			for range places + 1 {
				x.push(t, "next", path)
			}
			x.drop(t, 1, path)
			x.cut(t, 0, path)
		}
	})
}

func TestCutOfAFewInWords(t *testing.T) {
	r := New(3)
	for _, s := range []string{"x", "a", "b"} {
		r.Push(s)
	}
	r.Drop(1)
	r.Push("c") // in the first place
	for _, x := range []struct {
		n          int
		gone, kept []string
	}{
		{4, nil, []string{"a", "b", "c"}},
		{3, nil, []string{"a", "b", "c"}},
		{2, []string{"c"}, []string{"a", "b"}},
		{2, nil, []string{"a", "b"}},
		{0, []string{"a", "b"}, nil},
		{0, nil, nil},
		{-1, nil, nil},
	} {
		if gone := r.Cut(x.n); !slices.Equal(gone, x.gone) || !slices.Equal(r.List(), x.kept) {
			t.Errorf("cut %d: %q, left %q", x.n, gone, r.List())
		}
	}
	r.Push("d")
	r.Push("e")
	if gone := r.Cut(-1); !slices.Equal(gone, []string{"d", "e"}) || r.Len() != 0 {
		t.Errorf("cut -1: %q, left %q", gone, r.List())
	}
}

// In whatever row: all rows of a few steps, with few places.
func TestAllShortRowsOfCalls(t *testing.T) {
	type step struct {
		name string
		do   func(b both, s, path string)
	}
	steps := []step{{"push", func(b both, s, path string) { b.push(t, s, path) }}}
	for _, n := range []int{-1, 0, 1, 2} {
		steps = append(steps,
			step{"drop " + strconv.Itoa(n), func(b both, s, path string) { b.drop(t, n, path) }},
			step{"cut " + strconv.Itoa(n), func(b both, s, path string) { b.cut(t, n, path) }})
	}
	const length = 5
	var row []step
	var grow func()
	grow = func() {
		if len(row) < length {
			for _, s := range steps {
				row = append(row, s)
				grow()
				row = row[:len(row)-1]
			}
			return
		}
		// A push ahead of each step has the places fuller.
		for _, pushes := range []int{0, 1} {
			b, path := newBoth(3), ""
			for i, s := range row {
				path += s.name + ", "
				for range pushes {
					b.push(t, "p"+strconv.Itoa(i), path)
				}
				s.do(b, "s"+strconv.Itoa(i), path)
			}
		}
	}
	grow()
}

// drawn answers numbers from 0 up to below n, the same at each run.
func drawn(seed uint64) func(n int) int {
	return func(n int) int {
		seed = seed*6364136223846793005 + 1442695040888963407
		return int((seed >> 33) % uint64(n))
	}
}

func TestLongRowsOfCalls(t *testing.T) {
	for places := 1; places <= 64; places++ {
		draw, b := drawn(uint64(places)), newBoth(places)
		for i := range 1500 {
			path := "places " + strconv.Itoa(places) + ", step " + strconv.Itoa(i)
			switch draw(8) {
			case 0, 1:
				b.drop(t, draw(places+3)-1, path)
			case 2:
				b.cut(t, draw(places+3)-1, path)
			default:
				for k := range draw(places + 2) {
					b.push(t, strconv.Itoa(i)+"."+strconv.Itoa(k), path)
				}
			}
		}
	}
}

// What is pushed comes out in order, at the beginning by Drop and at the end by Cut, however often places come round.
func TestInOrderHoweverOftenPlacesComeRound(t *testing.T) {
	for _, places := range []int{1, 2, 3, 7, 12, 63, 64} {
		draw, r := drawn(uint64(places)), New(places)
		next, out := 0, 0 // the numbers of the next text that is pushed, and that comes out
		for next < 200*places {
			for r.Push(strconv.Itoa(next)) {
				next++
			}
			if back := draw(places + 1); draw(4) == 0 {
				// Those that are cut come again, in the order in which they were told.
				for i, s := range r.Cut(r.Len() - back) {
					if s != strconv.Itoa(next-back+i) || !r.Push(s) {
						t.Fatalf("%d places: %q cut, %d of %d", places, s, i, back)
					}
				}
			}
			n := 1 + draw(places)
			for i := range n {
				if s, ok := r.At(i); s != strconv.Itoa(out+i) || !ok {
					t.Fatalf("%d places: %q %v comes out, want %d", places, s, ok, out+i)
				}
			}
			if !r.Drop(n) {
				t.Fatalf("%d places: drop %d of %d", places, n, r.Len())
			}
			out += n
			if r.Len() != next-out {
				t.Fatalf("%d places: %d texts, want %d", places, r.Len(), next-out)
			}
		}
	}
}

// One place that comes round: each text is the first and the last one.
func TestOnePlace(t *testing.T) {
	r := New(1)
	for i := range 1000 {
		s := strconv.Itoa(i)
		if !r.Push(s) || r.Push("more") || !slices.Equal(r.List(), []string{s}) {
			t.Fatalf("%s: %q", s, r.List())
		}
		if i%2 == 0 && !r.Drop(1) {
			t.Fatalf("%s is not dropped", s)
		}
		if i%2 == 1 && !slices.Equal(r.Cut(0), []string{s}) {
			t.Fatalf("%s is not cut", s)
		}
	}
}

func TestListsStayAsTheyWere(t *testing.T) {
	r := New(3)
	for _, s := range []string{"x", "a", "b"} {
		r.Push(s)
	}
	r.Drop(1)
	r.Push("c")
	abc := []string{"a", "b", "c"}
	list, again := r.List(), r.List()
	cut := r.Cut(1)
	r.Push("d")
	r.Push("e")
	r.Drop(2)
	r.Push("f")
	r.Push("g")
	r.Cut(0)
	r.Push("h")
	if !slices.Equal(list, abc) || !slices.Equal(again, abc) || !slices.Equal(cut, []string{"b", "c"}) {
		t.Errorf("%q %q %q", list, again, cut)
	}
	if len(list) == 3 {
		list[0] = "changed"
	}
	if !slices.Equal(again, abc) {
		t.Errorf("two answers share memory: %q", again)
	}
}

func TestWhoChangesAnAnswerChangesNoRing(t *testing.T) {
	everyFilling(t, func(b func() both, places, count int) {
		x := b()
		spoil := func(l []string) {
			l = append(l, "beyond")
			for i := range l {
				l[i] = "changed"
			}
			spare := l[:cap(l)]
			for i := range spare {
				spare[i] = "changed"
			}
		}
		spoil(x.r.List())
		sameAs(t, x.r, x.m, "a list is changed")
		x.m.cut(count / 2)
		spoil(x.r.Cut(count / 2))
		sameAs(t, x.r, x.m, "a cut is changed")
		x.push(t, "next", "behind it")
	})
}

func TestTwoRingsShareNothing(t *testing.T) {
	a, b := newBoth(2), newBoth(2)
	a.push(t, "a", "one")
	sameAs(t, b.r, b.m, "the other")
	b.push(t, "b", "the other")
	b.push(t, "c", "the other")
	a.drop(t, 1, "one")
	sameAs(t, b.r, b.m, "the other")
	b.cut(t, 1, "the other")
	sameAs(t, a.r, a.m, "one")
}

// A text may be any: none of its bytes tells the ring anything.
func TestTextsOfAllKinds(t *testing.T) {
	texts := []string{"", "", "a", "a", "\x00", "\xff\xfe", "é€😀", "<presence/>", " \n", strings.Repeat("long ", 1<<16), ""}
	for _, places := range []int{1, 2, 3, 64} {
		b := newBoth(places)
		for range 3 {
			for _, s := range texts {
				b.push(t, s, "push")
				if b.r.Len() == places {
					b.drop(t, (places+1)/2, "drop")
				}
			}
			b.cut(t, places/2, "cut")
		}
	}
	r := New(2)
	r.Push("")
	if s, ok := r.At(0); s != "" || !ok || r.Len() != 1 || !slices.Equal(r.Cut(0), []string{""}) {
		t.Error("an empty text")
	}
}

func TestOfNil(t *testing.T) {
	var r *Ring
	for _, n := range []int{math.MinInt, -1, 0, 1, 2, 64, 65, math.MaxInt} {
		if r.Drop(n) {
			t.Errorf("drop %d", n)
		}
		if s, ok := r.At(n); s != "" || ok {
			t.Errorf("at %d: %q %v", n, s, ok)
		}
		if l := r.Cut(n); len(l) != 0 {
			t.Errorf("cut %d: %q", n, l)
		}
	}
	if r.Push("") || r.Push("a") || r.Len() != 0 || r.Places() != 0 || len(r.List()) != 0 {
		t.Error("a nil ring has something")
	}
}

// A ring that New didn't make has no places; its calls end, and none panics.
func TestOfNoPlaces(t *testing.T) {
	b := both{&Ring{}, &model{}}
	for _, n := range []int{math.MinInt, -1, 0, 1, 64, math.MaxInt} {
		b.push(t, "a", "no places")
		b.drop(t, n, "no places")
		b.cut(t, n, "no places")
	}
}

// No more is kept than the ring may have to answer: what is gone lies in no place.
func TestTextsThatAreGoneAreNotKept(t *testing.T) {
	everyFilling(t, func(b func() both, places, count int) {
		for n := range count + 1 {
			dropped, cut := b().r, b().r
			dropped.Drop(n)
			cut.Cut(n)
			for _, r := range []*Ring{dropped, cut} {
				kept := slices.DeleteFunc(slices.Clone(r.places), func(s string) bool { return s == "" })
				if len(kept) != r.Len() {
					t.Fatalf("%q kept, of them %q there", kept, r.List())
				}
			}
		}
	})
}
