package wheel

import (
	"cmp"
	"math"
	"slices"
	"strconv"
	"testing"

	"tidewater/api"
)

const end = 1 << 40

// Times that the chapter tells apart, and numbers that are no times.
var edges = []int{math.MinInt, math.MinInt + 1, -end - 1, -end, -(1 << 32), -2, -1, 0, 1, 2, 5, 6, 1<<31 - 1, 1 << 31, 1 << 32, end - 1, end, end + 1, end + 2, 1 << 41, 1 << 62, math.MaxInt - 1, math.MaxInt}

// due is a number, and when it is due.
type due struct{ id, at int }

// model tells the chapter's words again, by a list in the row of the calls, without a heap and a map.
type model struct {
	now  int
	list []due
}

func (m *model) place(id int) int {
	return slices.IndexFunc(m.list, func(d due) bool { return d.id == id })
}

func (m *model) set(id, at int) api.Errno {
	if at < 0 || at > end || at <= m.now {
		return api.ErrRange
	}
	i := m.place(id)
	if i < 0 && len(m.list) == 256 {
		return api.ErrFull
	}
	if i >= 0 {
		m.list[i].at = at
		return api.OK
	}
	m.list = append(m.list, due{id, at})
	return api.OK
}

func (m *model) drop(id int) bool {
	i := m.place(id)
	if i < 0 {
		return false
	}
	m.list = slices.Delete(m.list, i, i+1)
	return true
}

func (m *model) goTo(at int) ([]int, api.Errno) {
	if at < 0 || at > end || at < m.now {
		return nil, api.ErrRange
	}
	m.now = at
	var gone, left []due
	for _, d := range m.list {
		if d.at <= at {
			gone = append(gone, d)
		} else {
			left = append(left, d)
		}
	}
	m.list = left
	slices.SortFunc(gone, func(a, b due) int { return cmp.Or(cmp.Compare(a.at, b.at), cmp.Compare(a.id, b.id)) })
	var ids []int
	for _, d := range gone {
		ids = append(ids, d.id)
	}
	return ids, api.OK
}

func (m *model) next() (int, bool) {
	if len(m.list) == 0 {
		return 0, false
	}
	return slices.MinFunc(m.list, func(a, b due) int { return cmp.Compare(a.at, b.at) }).at, true
}

// both has a call done with the wheel and the model, and fails if they answer otherwise or aren't the same behind it.
type both struct {
	w *Wheel
	m *model
}

func newBoth() both { return both{New(), &model{}} }

// bothAt answers a wheel without numbers whose time is now.
func bothAt(t *testing.T, now int) both {
	t.Helper()
	b := newBoth()
	b.goTo(t, now, "to "+strconv.Itoa(now))
	return b
}

// same asks by all calls that change nothing, of all numbers that are due, and of some that needn't be.
func (b both) same(t *testing.T, path string) {
	t.Helper()
	if b.w.Now() != b.m.now || b.w.Len() != len(b.m.list) {
		t.Fatalf("%s: now %d, %d numbers, want %d, %d", path, b.w.Now(), b.w.Len(), b.m.now, len(b.m.list))
	}
	at, ok := b.w.Next()
	if want, wantOk := b.m.next(); at != want || ok != wantOk {
		t.Fatalf("%s: next %d %v, want %d %v", path, at, ok, want, wantOk)
	}
	for _, d := range b.m.list {
		if at, ok := b.w.At(d.id); at != d.at || !ok {
			t.Fatalf("%s: %d at %d %v, want %d", path, d.id, at, ok, d.at)
		}
	}
	for _, id := range []int{math.MinInt, -2, -1, 0, 1, 2, 3, 255, 256, 257, math.MaxInt} {
		if at, ok := b.w.At(id); b.m.place(id) < 0 && (at != 0 || ok) {
			t.Fatalf("%s: %d at %d %v, want none", path, id, at, ok)
		}
	}
}

func (b both) set(t *testing.T, id, at int, path string) {
	t.Helper()
	if got, want := b.w.Set(id, at), b.m.set(id, at); got != want {
		t.Fatalf("%s: set %d at %d: error %d, want %d", path, id, at, got, want)
	}
	b.same(t, path)
}

func (b both) drop(t *testing.T, id int, path string) {
	t.Helper()
	if got, want := b.w.Drop(id), b.m.drop(id); got != want {
		t.Fatalf("%s: drop %d: %v, want %v", path, id, got, want)
	}
	b.same(t, path)
}

func (b both) goTo(t *testing.T, at int, path string) {
	t.Helper()
	l, e := b.w.Go(at)
	if want, wantE := b.m.goTo(at); !slices.Equal(l, want) || e != wantE {
		t.Fatalf("%s: go to %d: %d, error %d, want %d, error %d", path, at, l, e, want, wantE)
	}
	b.same(t, path)
}

// drawn answers numbers from 0 up to below n, the same at each run.
func drawn(seed uint64) func(n int) int {
	return func(n int) int {
		seed = seed*6364136223846793005 + 1442695040888963407
		return int((seed >> 33) % uint64(n))
	}
}

// full answers a wheel at the time now that has the numbers 0 to 255, three at each time behind it.
func full(t *testing.T, now int) both {
	t.Helper()
	b := bothAt(t, now)
	for id := range 256 {
		b.set(t, id, now+1+id/3, "fill")
	}
	return b
}

// wantGo fails if the wheel doesn't go there, or other numbers come.
func wantGo(t *testing.T, w *Wheel, at int, want ...int) {
	t.Helper()
	if l, e := w.Go(at); !slices.Equal(l, want) || e != api.OK || w.Now() != at {
		t.Fatalf("go to %d: %d, error %d, now %d, want %d", at, l, e, w.Now(), want)
	}
}

// wantSet fails if the wheel answers a Set otherwise.
func wantSet(t *testing.T, w *Wheel, id, at int, want api.Errno) {
	t.Helper()
	if e := w.Set(id, at); e != want {
		t.Fatalf("set %d at %d: error %d, want %d", id, at, e, want)
	}
}

func TestTheChaptersExample(t *testing.T) {
	w := New()
	wantSet(t, w, 1, 5, api.OK)
	wantSet(t, w, 2, 3, api.OK)
	wantGo(t, w, 5, 2, 1)
}

func TestNewHasNothing(t *testing.T) {
	newBoth().same(t, "new")
	w := New()
	if at, ok := w.Next(); at != 0 || ok || w.Now() != 0 || w.Len() != 0 {
		t.Error(at, ok, w.Now(), w.Len())
	}
	for _, id := range edges {
		if at, ok := w.At(id); at != 0 || ok || w.Drop(id) {
			t.Errorf("%d at %d %v", id, at, ok)
		}
	}
	wantGo(t, w, 0)
}

func TestSetAtEdges(t *testing.T) {
	want := map[int]api.Errno{
		math.MinInt: api.ErrRange, -1: api.ErrRange, 0: api.ErrRange, 1: api.OK, 2: api.OK, end - 1: api.OK,
		end: api.OK, end + 1: api.ErrRange, math.MaxInt: api.ErrRange,
	}
	for at, e := range want {
		w := New()
		wantSet(t, w, 7, at, e)
		if got, ok := w.At(7); ok != (e == api.OK) || ok && got != at || !ok && got != 0 {
			t.Errorf("%d: at %d %v", at, got, ok)
		}
		if got, ok := w.Next(); ok != (e == api.OK) || ok && got != at || !ok && got != 0 {
			t.Errorf("%d: next %d %v", at, got, ok)
		}
	}
}

// A number is due behind the wheel's time alone, wherever that is.
func TestSetAroundTheWheelsTime(t *testing.T) {
	for _, now := range []int{0, 1, 2, 5, 1 << 32, end - 2, end - 1, end} {
		for _, at := range append([]int{now - 1, now, now + 1, now + 2}, edges...) {
			path := strconv.Itoa(at) + " at " + strconv.Itoa(now)
			b := bothAt(t, now)
			b.set(t, 7, at, path)
			b.set(t, -7, at, path)
			b.set(t, 7, at, path)
			b.goTo(t, end, path)
		}
		w := New()
		wantGo(t, w, now)
		wantSet(t, w, 1, now-1, api.ErrRange)
		wantSet(t, w, 1, now, api.ErrRange)
		if now < end {
			wantSet(t, w, 1, now+1, api.OK)
		} else {
			wantSet(t, w, 1, now+1, api.ErrRange)
		}
	}
}

// At the last time nothing can be due any more.
func TestAtTheLastTime(t *testing.T) {
	w := New()
	wantSet(t, w, 3, end, api.OK)
	wantSet(t, w, 2, end, api.OK)
	wantGo(t, w, end-1)
	wantGo(t, w, end, 2, 3)
	wantGo(t, w, end)
	for _, at := range edges {
		wantSet(t, w, 1, at, api.ErrRange)
		if l, e := w.Go(at); at != end && (len(l) != 0 || e != api.ErrRange) || w.Now() != end {
			t.Errorf("go to %d: %d, error %d, now %d", at, l, e, w.Now())
		}
	}
}

func TestSetOfANumberThatIsDue(t *testing.T) {
	for _, again := range []int{1, 3, 4, 5, 6, 9, 12} {
		path := "again at " + strconv.Itoa(again)
		b := newBoth()
		for id, at := range []int{6, 3, 5, 9} {
			b.set(t, id, at, path)
		}
		b.set(t, 2, again, path)
		b.set(t, 2, again, path)
		for at := 1; at <= 12; at++ {
			b.goTo(t, at, path)
		}
	}
	w := New()
	wantSet(t, w, 1, 5, api.OK)
	wantSet(t, w, 1, 8, api.OK)
	if at, ok := w.At(1); at != 8 || !ok || w.Len() != 1 {
		t.Error(at, ok, w.Len())
	}
	wantGo(t, w, 7)
	wantGo(t, w, 8, 1)
	wantSet(t, w, 1, 20, api.OK)
	wantSet(t, w, 1, 10, api.OK)
	if !w.Drop(1) || w.Drop(1) || w.Len() != 0 {
		t.Error("set twice, dropped once")
	}
	wantGo(t, w, 30)
}

// R3: a number that is refused another time is due when it was.
func TestSetThatIsRefusedLeavesTheNumber(t *testing.T) {
	b := bothAt(t, 4)
	b.set(t, 1, 9, "set")
	for _, at := range append([]int{3, 4}, edges...) {
		if at > 4 && at <= end {
			continue
		}
		wantSet(t, b.w, 1, at, api.ErrRange)
		wantSet(t, b.w, 2, at, api.ErrRange)
		b.same(t, "refused")
	}
	wantGo(t, b.w, 9, 1)
}

func TestSetWhereThereAre256(t *testing.T) {
	w := New()
	for id := range 255 {
		wantSet(t, w, id, 10, api.OK)
	}
	wantSet(t, w, 255, 10, api.OK)
	wantSet(t, w, 256, 10, api.ErrFull)
	if at, ok := w.At(256); w.Len() != 256 || at != 0 || ok {
		t.Error(w.Len(), at, ok)
	}
	// A number's time is looked at first, and one of the 256 may have another.
	wantSet(t, w, 256, 0, api.ErrRange)
	wantSet(t, w, 256, end+1, api.ErrRange)
	wantSet(t, w, 0, 0, api.ErrRange)
	for _, id := range []int{0, 17, 255} {
		wantSet(t, w, id, 9, api.OK)
		wantSet(t, w, id, 9, api.OK)
	}
	if w.Len() != 256 {
		t.Error(w.Len())
	}
	wantGo(t, w, 9, 0, 17, 255)
	for _, id := range []int{256, -1, 0} {
		wantSet(t, w, id, 11, api.OK)
	}
	wantSet(t, w, 17, 11, api.ErrFull)
	if !w.Drop(100) {
		t.Error("drop")
	}
	wantSet(t, w, 17, 11, api.OK)
	wantSet(t, w, 100, 11, api.ErrFull)
}

func TestAFullWheel(t *testing.T) {
	for _, now := range []int{0, 77, end - 300} {
		b := full(t, now)
		for _, id := range []int{256, 257, -1, math.MinInt, math.MaxInt} {
			for _, at := range append([]int{now, now + 1, now + 500}, edges...) {
				b.set(t, id, at, "one more")
			}
		}
		for id := range 256 {
			b.set(t, id, now+1+(id*37)%100, "again")
		}
		b.goTo(t, now+50, "half of them")
		for id := 1000; id < 1256; id++ {
			b.set(t, id, now+51+id%7, "others")
		}
		b.goTo(t, now+99, "nearly all")
		b.goTo(t, end, "all")
	}
}

func TestDrop(t *testing.T) {
	w := New()
	if w.Drop(1) {
		t.Error("of none")
	}
	wantSet(t, w, 1, 5, api.OK)
	wantSet(t, w, 2, 3, api.OK)
	if w.Drop(3) || w.Drop(-1) || w.Drop(5) || w.Len() != 2 {
		t.Error("of one that isn't due", w.Len())
	}
	if !w.Drop(2) || w.Drop(2) || w.Len() != 1 {
		t.Error("twice", w.Len())
	}
	if at, ok := w.At(2); at != 0 || ok {
		t.Error(at, ok)
	}
	if at, ok := w.Next(); at != 5 || !ok {
		t.Error(at, ok)
	}
	wantGo(t, w, 5, 1)
	if w.Drop(1) {
		t.Error("of one that has come")
	}
	if at, ok := w.Next(); at != 0 || ok || w.Len() != 0 {
		t.Error(at, ok, w.Len())
	}
}

// Whichever number goes, from wherever in the heap, the others come as they would.
func TestDropOfEachNumber(t *testing.T) {
	for seed := range 30 {
		for _, count := range []int{1, 2, 3, 4, 7, 8, 20} {
			for gone := range count {
				draw, b := drawn(uint64(seed)), newBoth()
				path := "seed " + strconv.Itoa(seed) + ", " + strconv.Itoa(gone) + " of " + strconv.Itoa(count)
				for id := range count {
					b.set(t, id, 1+draw(12), path)
				}
				if seed%2 == 0 {
					b.drop(t, gone, path)
				} else {
					b.set(t, gone, 1+draw(12), path)
				}
				for at := 1; at <= 12; at++ {
					b.goTo(t, at, path)
				}
			}
		}
	}
}

func TestGoToEdges(t *testing.T) {
	for _, now := range []int{0, 1, 5, 1 << 32, end - 1, end} {
		for _, to := range append([]int{now - 1, now, now + 1, now + 2}, edges...) {
			path := "from " + strconv.Itoa(now) + " to " + strconv.Itoa(to)
			b := bothAt(t, now)
			for id, at := range []int{now + 2, now + 1, end, now + 1, end - 1} {
				b.set(t, id, at, path)
			}
			b.goTo(t, to, path)
			b.goTo(t, to, path)
			b.set(t, 9, to+1, path)
			b.goTo(t, end, path)
		}
	}
}

func TestGoInWords(t *testing.T) {
	w := New()
	wantSet(t, w, 1, 6, api.OK)
	wantSet(t, w, 2, 7, api.OK)
	wantSet(t, w, 3, end, api.OK)
	wantGo(t, w, 0)
	wantGo(t, w, 5)
	wantGo(t, w, 5)
	for _, at := range []int{4, 1, 0, -1, math.MinInt, end + 1, math.MaxInt} {
		if l, e := w.Go(at); len(l) != 0 || e != api.ErrRange || w.Now() != 5 || w.Len() != 3 {
			t.Errorf("go to %d: %d, error %d, now %d, %d numbers", at, l, e, w.Now(), w.Len())
		}
	}
	wantGo(t, w, 6, 1)
	wantGo(t, w, 6)
	wantGo(t, w, end-1, 2)
	wantGo(t, w, end, 3)
}

// What is due at one time comes in the order of the numbers, in whatever row they were set.
func TestSeveralAtOneTime(t *testing.T) {
	w := New()
	for _, id := range []int{3, math.MaxInt, -1, 0, math.MinInt, 10, -20, 2} {
		wantSet(t, w, id, 4, api.OK)
	}
	wantSet(t, w, 100, 3, api.OK)
	wantSet(t, w, -100, 5, api.OK)
	wantGo(t, w, 5, 100, math.MinInt, -20, -1, 0, 2, 3, 10, math.MaxInt, -100)
}

func TestInWhateverRowTheyAreSet(t *testing.T) {
	all := []due{{-2, 2}, {5, 2}, {-9, 3}, {0, 3}, {7, 3}, {1, 4}}
	want := []int{-2, 5, -9, 0, 7, 1}
	var row []due
	var grow func(left []due)
	grow = func(left []due) {
		for i, d := range left {
			row = append(row, d)
			grow(slices.Concat(left[:i], left[i+1:]))
			row = row[:len(row)-1]
		}
		if len(left) > 0 {
			return
		}
		w := New()
		for _, d := range row {
			wantSet(t, w, d.id, d.at, api.OK)
		}
		if at, ok := w.Next(); at != 2 || !ok {
			t.Fatal(at, ok)
		}
		wantGo(t, w, 4, want...)
	}
	grow(all)
}

func TestSetAgainOrDroppedAheadOfGo(t *testing.T) {
	w := New()
	for id := range 6 {
		wantSet(t, w, id, 5, api.OK)
	}
	wantSet(t, w, 0, 9, api.OK)
	wantSet(t, w, 4, 2, api.OK)
	wantSet(t, w, 5, 8, api.OK)
	wantSet(t, w, 5, 5, api.OK)
	if !w.Drop(1) || !w.Drop(3) {
		t.Error("drop")
	}
	wantSet(t, w, 3, 4, api.OK)
	wantGo(t, w, 8, 4, 3, 2, 5)
	wantGo(t, w, 9, 0)
}

// A number that has come may be set anew.
func TestSetOfANumberThatHasCome(t *testing.T) {
	w := New()
	for at := 1; at <= 1000; at++ {
		wantSet(t, w, 1, at, api.OK)
		wantSet(t, w, -1, at+1000, api.OK)
		wantGo(t, w, at, 1)
	}
	if at, ok := w.At(-1); at != 2000 || !ok || w.Len() != 1 {
		t.Error(at, ok, w.Len())
	}
}

func TestAtAndNextOfNone(t *testing.T) {
	w := New()
	none := func(id int) {
		t.Helper()
		if at, ok := w.At(id); at != 0 || ok {
			t.Errorf("at %d %v", at, ok)
		}
		if at, ok := w.Next(); at != 0 || ok {
			t.Errorf("next %d %v", at, ok)
		}
	}
	none(0)
	wantSet(t, w, 0, 3, api.OK)
	w.Drop(0)
	none(0)
	wantSet(t, w, 0, 3, api.OK)
	wantGo(t, w, 4, 0)
	none(0)
	none(3)
}

// ask has the wheel answer all that changes nothing, refused calls among it.
func ask(t *testing.T, w *Wheel) {
	t.Helper()
	for _, id := range []int{-3, 0, 1, 99, math.MaxInt} {
		w.At(id)
	}
	w.Next()
	w.Len()
	w.Drop(math.MinInt)
	wantSet(t, w, 1, w.Now(), api.ErrRange)
	wantSet(t, w, math.MinInt, end+1, api.ErrRange)
	if _, e := w.Go(w.Now() - 1); e != api.ErrRange {
		t.Fatalf("go back: error %d", e)
	}
}

// P8.2: one way in one step, in every cut into steps, and time by time.
func TestOneWayInEveryCut(t *testing.T) {
	const far = 8
	for seed := range 8 {
		draw := drawn(uint64(seed))
		var all []due
		for range 12 {
			all = append(all, due{draw(9) - 4, 1 + draw(far)})
		}
		filled := func() *Wheel {
			w := New()
			for _, d := range all {
				wantSet(t, w, d.id, d.at, api.OK)
			}
			return w
		}
		want, _ := filled().Go(far)
		for cuts := range 1 << (far - 1) {
			w := filled()
			var got []int
			for at := 1; at <= far; at++ {
				if at < far && cuts>>(at-1)&1 == 0 {
					continue
				}
				ask(t, w)
				l, e := w.Go(at)
				more, again := w.Go(at)
				if e != api.OK || again != api.OK || len(more) != 0 {
					t.Fatalf("seed %d, cuts %b, at %d: errors %d %d, %d more", seed, cuts, at, e, again, more)
				}
				got = append(got, l...)
			}
			if !slices.Equal(got, want) || w.Len() != 0 || w.Now() != far {
				t.Fatalf("seed %d, cuts %b: %d, want %d", seed, cuts, got, want)
			}
		}
	}
}

// P8.2: a long way of a full wheel, in steps of all lengths.
func TestOneLongWayInSteps(t *testing.T) {
	for seed := range 40 {
		far := []int{3, 50, 1000, 1 << 20}[seed%4]
		filled := func() *Wheel {
			draw, w := drawn(uint64(seed)), New()
			for range 600 {
				w.Set(draw(300)-150, 1+draw(far))
				if draw(5) == 0 {
					w.Drop(draw(300) - 150)
				}
			}
			return w
		}
		one := filled()
		want, e := one.Go(far)
		if e != api.OK || len(want) == 0 || one.Len() != 0 {
			t.Fatalf("seed %d: %d, error %d, %d left", seed, want, e, one.Len())
		}
		draw, w := drawn(uint64(seed)+99), filled()
		var got []int
		for w.Now() < far {
			ask(t, w)
			l, e := w.Go(min(far, w.Now()+draw(2+far/10)))
			if e != api.OK {
				t.Fatalf("seed %d: error %d", seed, e)
			}
			got = append(got, l...)
		}
		if !slices.Equal(got, want) {
			t.Fatalf("seed %d: %d, want %d", seed, got, want)
		}
		// From one that is due to the next, as Next tells.
		w, got = filled(), nil
		for at, ok := w.Next(); ok; at, ok = w.Next() {
			l, e := w.Go(at)
			if e != api.OK || len(l) == 0 {
				t.Fatalf("seed %d: none is due at %d, error %d", seed, at, e)
			}
			got = append(got, l...)
		}
		if !slices.Equal(got, want) {
			t.Fatalf("seed %d: %d by Next, want %d", seed, got, want)
		}
	}
}

// In whatever row: all rows of a few calls.
func TestAllShortRowsOfCalls(t *testing.T) {
	type step struct {
		name string
		do   func(b both, path string)
	}
	var steps []step
	for _, id := range []int{-1, 0, 1} {
		for _, at := range []int{1, 2, 3} {
			steps = append(steps, step{"set " + strconv.Itoa(id) + " at " + strconv.Itoa(at), func(b both, path string) { b.set(t, id, at, path) }})
		}
		steps = append(steps, step{"drop " + strconv.Itoa(id), func(b both, path string) { b.drop(t, id, path) }})
	}
	for _, at := range []int{0, 1, 2, 3} {
		steps = append(steps, step{"go " + strconv.Itoa(at), func(b both, path string) { b.goTo(t, at, path) }})
	}
	const length = 4
	var row []step
	var grow func()
	grow = func() {
		if len(row) < length {
			for _, s := range steps {
				row = append(row, s)
				grow()
				row = row[:len(row)-1]
			}
			return
		}
		b, path := newBoth(), ""
		for _, s := range row {
			path += s.name + ", "
			s.do(b, path)
		}
		b.goTo(t, end, path+"go to the end")
	}
	grow()
}

func TestLongRowsOfCalls(t *testing.T) {
	for seed := range 24 {
		draw, b := drawn(uint64(seed)), newBoth()
		// Few numbers meet often; many of them fill the wheel.
		numbers := []int{2, 5, 40, 250, 256, 257, 300, 1000}[seed%8]
		// Few times have many numbers due at once.
		spread := []int{4, 60, 100000}[seed%3]
		for i := range 3000 {
			path := "seed " + strconv.Itoa(seed) + ", step " + strconv.Itoa(i)
			id := draw(numbers) - numbers/3
			switch draw(12) {
			case 0, 1:
				b.drop(t, id, path)
			case 2:
				if draw(10) == 0 {
					b.goTo(t, b.m.now+draw(spread+2)-1, path)
				}
			case 3:
				b.set(t, id, edges[draw(len(edges))], path)
			default:
				b.set(t, id, b.m.now+draw(spread+2)-1, path)
			}
		}
		b.goTo(t, end, "seed "+strconv.Itoa(seed))
	}
}

// A number may be any: those that look like times, or like nothing, too.
func TestNumbersOfAllKinds(t *testing.T) {
	b := newBoth()
	for i, id := range edges {
		b.set(t, id, 10-i%3, "set")
	}
	for i, id := range edges {
		if i%4 == 0 {
			b.drop(t, id, "drop")
		}
	}
	for at := range 11 {
		b.goTo(t, at, "go")
	}
}

func TestOfNil(t *testing.T) {
	var w *Wheel
	for _, n := range edges {
		for _, id := range edges {
			if e := w.Set(id, n); e != api.ErrArg {
				t.Errorf("set %d at %d: error %d", id, n, e)
			}
		}
		if w.Drop(n) {
			t.Errorf("drop %d", n)
		}
		if l, e := w.Go(n); len(l) != 0 || e != api.ErrArg {
			t.Errorf("go to %d: %d, error %d", n, l, e)
		}
		if at, ok := w.At(n); at != 0 || ok {
			t.Errorf("at of %d: %d %v", n, at, ok)
		}
	}
	if at, ok := w.Next(); at != 0 || ok || w.Now() != 0 || w.Len() != 0 {
		t.Error("a nil wheel has something")
	}
}

// A wheel that New didn't make is as one that it made; its calls end, and none panics.
func TestOfAWheelThatNewDidNotMake(t *testing.T) {
	for _, n := range edges {
		b := both{&Wheel{}, &model{}}
		b.same(t, "at first")
		b.drop(t, n, "drop")
		b.goTo(t, n, "go")
		b.set(t, n, n, "set")
		b.set(t, n, b.m.now+2, "set")
		b.set(t, 1, b.m.now+1, "set")
		b.goTo(t, end, "go on")
	}
}

func TestAnswersAreNewMemory(t *testing.T) {
	b := full(t, 0)
	spoil := func(l []int) {
		for i := range l[:cap(l)] {
			l[:cap(l)][i] = -77
		}
	}
	first, _ := b.w.Go(10)
	b.m.goTo(10)
	kept := slices.Clone(first)
	b.goTo(t, 20, "go on")
	for id := range 60 {
		b.set(t, id, 30, "set anew")
	}
	if !slices.Equal(first, kept) {
		t.Errorf("%d was answered, is %d", kept, first)
	}
	spoil(first)
	b.same(t, "an answer is changed")
	b.goTo(t, 30, "go on")
	b.goTo(t, end, "go on")
}

func TestTwoWheelsShareNothing(t *testing.T) {
	a, b := newBoth(), newBoth()
	a.set(t, 1, 5, "one")
	b.same(t, "the other")
	b.set(t, 1, 7, "the other")
	b.set(t, 2, 3, "the other")
	a.goTo(t, 6, "one")
	b.same(t, "the other")
	b.drop(t, 1, "the other")
	a.same(t, "one")
	b.goTo(t, 3, "the other")
	a.same(t, "one")
}

// No more is kept than the numbers that are due, however often they were set, dropped and gone.
func TestNumbersThatAreGoneAreNotKept(t *testing.T) {
	draw, w := drawn(5), New()
	for i := range 100000 {
		switch id := draw(400); draw(6) {
		case 0:
			w.Drop(id)
		case 1:
			w.Go(w.Now() + draw(2))
		default:
			w.Set(id, w.Now()+1+draw(1000))
		}
		if len(w.waiting.ids) != len(w.waiting.times) || len(w.waiting.ids) > 256 {
			t.Fatalf("step %d: %d numbers and %d times", i, len(w.waiting.ids), len(w.waiting.times))
		}
	}
	if n := cap(w.waiting.ids); n > 1024 {
		t.Errorf("%d places for 256 numbers", n)
	}
}
