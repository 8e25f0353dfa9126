package marks_test

import (
	"fmt"
	"math"
	"math/rand"
	"slices"
	"testing"

	"haycroft/api"
	"haycroft/marks"
)

// The marks, the regions and the errors as numbers, written out, so that nothing here leans on the program's own ones.
const (
	readOnly = 0
	safe     = 1
	flushed  = 2
	head     = 3
	gone     = 4
	count    = 5
)

const (
	none     = 0
	mutable  = 1
	fuzzy    = 2
	onlyRead = 3
	disk     = 4
)

const (
	errArg   = api.Errno(1)
	errNil   = api.Errno(2)
	errThere = api.Errno(8)
	errOver  = api.Errno(13)
)

const (
	belowAll  = math.MinInt
	greatPage = 1 << 40
	lastPage  = math.MaxInt
	farTail   = math.MaxInt
)

// strangers are numbers that no mark has.
var strangers = []int{-1, 5, 6, -2, -5, 8, 1 << 32, 1<<32 + 1, -1 << 32, math.MinInt32, math.MaxInt32, math.MinInt, math.MinInt + 1, math.MaxInt - 1, math.MaxInt}

// model is the marks as the chapter tells them: five numbers.
type model [count]int

func (m *model) has(mark int) bool {
	return mark == 0 || mark == 1 || mark == 2 || mark == 3 || mark == 4
}

func (m *model) at(mark int) int {
	if !m.has(mark) {
		return 0
	}
	return m[mark]
}

func (m *model) most(mark, tail int) int {
	switch mark {
	case readOnly:
		return tail
	case safe:
		return m[readOnly]
	case flushed:
		return m[safe]
	case head:
		return m[flushed]
	case gone:
		return m[head]
	}
	return 0
}

func (m *model) raise(mark, to, tail int) api.Errno {
	if !m.has(mark) {
		return errArg
	}
	if to <= m[mark] {
		return errThere
	}
	if to > m.most(mark, tail) {
		return errOver
	}
	m[mark] = to
	return api.OK
}

func (m *model) region(page, tail int) int {
	if page > tail || page < 0 {
		return none
	}
	if page >= m[readOnly] {
		return mutable
	}
	if page >= m[safe] {
		return fuzzy
	}
	if page >= m[head] {
		return onlyRead
	}
	return disk
}

func (m *model) begin(page int) api.Errno {
	if page < 0 {
		return errArg
	}
	for _, at := range m {
		if at != 0 {
			return errThere
		}
	}
	*m = model{page, page, page, page, page}
	return api.OK
}

// made is a new set that must be there, raised to five numbers.
func made(t *testing.T, at model) *marks.Set {
	t.Helper()
	s := marks.New()
	if s == nil {
		t.Fatal("New tells nothing")
	}
	for mark, to := range at {
		if to > 0 {
			raise(t, s, mark, to, farTail)
		}
	}
	stand(t, s, at)
	return s
}

func raise(t *testing.T, s *marks.Set, mark, to, tail int) {
	t.Helper()
	if e := s.Raise(mark, to, tail); e != api.OK {
		t.Fatalf("Raise(%d, %d, %d) tells %d", mark, to, tail, e)
	}
}

func begin(t *testing.T, s *marks.Set, page int) {
	t.Helper()
	if e := s.Begin(page); e != api.OK {
		t.Fatalf("Begin(%d) tells %d", page, e)
	}
}

// stand: the marks are these, whoever tells them, twice, since to tell changes nothing.
func stand(t *testing.T, s *marks.Set, at model) {
	t.Helper()
	for range 2 {
		if l := s.All(); !slices.Equal(l, at[:]) {
			t.Fatalf("All is %v, not %v", l, at)
		}
		for mark, want := range at {
			if g := s.At(mark); g != want {
				t.Fatalf("At(%d) is %d, not %d", mark, g, want)
			}
		}
	}
}

// noRaise: it is refused, and changes nothing.
func noRaise(t *testing.T, s *marks.Set, want api.Errno, mark, to, tail int) {
	t.Helper()
	was := model(s.All())
	if e := s.Raise(mark, to, tail); e != want {
		t.Fatalf("%v: Raise(%d, %d, %d) tells %d, not %d", was, mark, to, tail, e, want)
	}
	stand(t, s, was)
}

func noBegin(t *testing.T, s *marks.Set, want api.Errno, page int) {
	t.Helper()
	was := model(s.All())
	if e := s.Begin(page); e != want {
		t.Fatalf("%v: Begin(%d) tells %d, not %d", was, page, e, want)
	}
	stand(t, s, was)
}

func region(t *testing.T, s *marks.Set, page, tail, want int) {
	t.Helper()
	if r := s.Region(page, tail); r != want {
		t.Fatalf("%v: Region(%d, %d) is %d, not %d", s.All(), page, tail, r, want)
	}
}

// ordered are all five numbers, up to a greatest one, that stand in their order.
func ordered(most int) []model {
	var l []model
	for a := range most + 1 {
		for b := range a + 1 {
			for c := range b + 1 {
				for d := range c + 1 {
					for e := range d + 1 {
						l = append(l, model{a, b, c, d, e})
					}
				}
			}
		}
	}
	return l
}

// near are the numbers round some others, and those at the ends of all numbers.
func near(at ...int) []int {
	l := []int{belowAll, belowAll + 1, -1 << 32, -2, -1, 0, 1, 2, 1 << 32, math.MaxInt - 1, math.MaxInt}
	for _, n := range at {
		l = append(l, n)
		if n > belowAll {
			l = append(l, n-1)
		}
		if n < math.MaxInt {
			l = append(l, n+1)
		}
	}
	slices.Sort(l)
	return slices.Compact(l)
}

// P13.1

func TestNumbersOfTheMarks(t *testing.T) {
	if l := []int{api.MarkReadOnly, api.MarkSafe, api.MarkFlushed, api.MarkHead, api.MarkGone, api.Marks}; !slices.Equal(l, []int{readOnly, safe, flushed, head, gone, count}) {
		t.Fatal(l)
	}
	if l := []int{api.RegionNone, api.RegionMutable, api.RegionFuzzy, api.RegionReadOnly, api.RegionDisk}; !slices.Equal(l, []int{none, mutable, fuzzy, onlyRead, disk}) {
		t.Fatal(l)
	}
}

func TestExample(t *testing.T) {
	s := marks.New()
	raise(t, s, readOnly, 2, 3)
	region(t, s, 1, 3, fuzzy)
	region(t, s, 2, 3, mutable)
	stand(t, s, model{2, 0, 0, 0, 0})
}

func TestAllAreNoughtAtFirst(t *testing.T) {
	s := made(t, model{})
	for _, mark := range []int{safe, flushed, head, gone} {
		for _, tail := range near() {
			if n := s.Most(mark, tail); n != 0 {
				t.Fatalf("Most(%d, %d) is %d", mark, tail, n)
			}
		}
		noRaise(t, s, errOver, mark, 1, farTail)
	}
	region(t, s, 0, 0, mutable)
	region(t, s, 1, 0, none)
	region(t, s, -1, 0, none)
}

func TestEachMarkHasANumberOfItsOwn(t *testing.T) {
	s := made(t, model{90, 70, 50, 30, 10})
	for mark, want := range []int{farTail, 90, 70, 50, 30} {
		if n := s.Most(mark, farTail); n != want {
			t.Fatalf("Most(%d) is %d, not %d", mark, n, want)
		}
	}
	raise(t, s, gone, 30, 0)
	stand(t, s, model{90, 70, 50, 30, 30})
	raise(t, s, head, 31, 0)
	stand(t, s, model{90, 70, 50, 31, 30})
	raise(t, s, flushed, 69, 0)
	stand(t, s, model{90, 70, 69, 31, 30})
	raise(t, s, safe, 71, 0)
	stand(t, s, model{90, 71, 69, 31, 30})
	raise(t, s, readOnly, 91, 91)
	stand(t, s, model{91, 71, 69, 31, 30})
}

func TestThereIsNoSuchMark(t *testing.T) {
	for _, at := range []model{{}, {9, 7, 5, 3, 1}, {7, 7, 7, 7, 7}, {lastPage, lastPage, lastPage, lastPage, lastPage}} {
		s := made(t, at)
		for _, mark := range strangers {
			if n := s.At(mark); n != 0 {
				t.Fatalf("At(%d) is %d", mark, n)
			}
			for _, tail := range near(1, 9) {
				if n := s.Most(mark, tail); n != 0 {
					t.Fatalf("Most(%d, %d) is %d", mark, tail, n)
				}
				for _, to := range near(at[:]...) {
					noRaise(t, s, errArg, mark, to, tail)
				}
			}
		}
	}
}

// The tail bounds MarkReadOnly alone, and is told whatever it is.
func TestMostOfEachMark(t *testing.T) {
	for _, at := range []model{{}, {1, 0, 0, 0, 0}, {9, 7, 5, 3, 1}, {8, 8, 8, 8, 8}, {lastPage, greatPage, 4, 4, 2}} {
		s := made(t, at)
		for _, tail := range near(at[:]...) {
			want := []int{tail, at[0], at[1], at[2], at[3]}
			for mark := range count {
				if n := s.Most(mark, tail); n != want[mark] {
					t.Fatalf("%v: Most(%d, %d) is %d, not %d", at, mark, tail, n, want[mark])
				}
			}
		}
		stand(t, s, at)
	}
}

func TestRaiseAtTheEdges(t *testing.T) {
	at := model{50, 40, 30, 20, 10}
	for mark := range count {
		const tail = 60
		most := []int{tail, 50, 40, 30, 20}[mark]
		s := made(t, at)
		for _, to := range []int{belowAll, -1 << 32, -1, 0, 1, at[mark] - 1, at[mark]} {
			noRaise(t, s, errThere, mark, to, tail)
		}
		for _, to := range []int{most + 1, most + 2, 1 << 32, lastPage - 1, lastPage} {
			noRaise(t, s, errOver, mark, to, tail)
		}
		want := at
		for _, to := range []int{at[mark] + 1, at[mark] + 2, most - 1, most} {
			raise(t, s, mark, to, tail)
			want[mark] = to
			stand(t, s, want)
			noRaise(t, s, errThere, mark, to, tail)
			noRaise(t, s, errThere, mark, to-1, tail)
			noRaise(t, s, errThere, mark, at[mark], tail)
			noRaise(t, s, errThere, mark, 0, tail)
		}
		noRaise(t, s, errOver, mark, most+1, tail)
	}
}

// A mark may go at once as far as Most tells, and no further.
func TestRaiseToMost(t *testing.T) {
	for _, at := range ordered(4) {
		for mark := range count {
			for tail := at[readOnly]; tail <= 5; tail++ {
				s := made(t, at)
				most := s.Most(mark, tail)
				noRaise(t, s, errOver, mark, most+1, tail)
				if most == at[mark] {
					noRaise(t, s, errThere, mark, most, tail)
					continue
				}
				raise(t, s, mark, most, tail)
				want := at
				want[mark] = most
				stand(t, s, want)
				noRaise(t, s, errOver, mark, most+1, tail)
				noRaise(t, s, errThere, mark, most, tail)
			}
		}
	}
}

func TestTailsAtTheEdges(t *testing.T) {
	s := made(t, model{})
	noRaise(t, s, errOver, readOnly, 1, 0)
	noRaise(t, s, errThere, readOnly, 0, 0)
	noRaise(t, s, errThere, readOnly, 0, farTail)
	for _, tail := range []int{-1, -2, belowAll} {
		noRaise(t, s, errOver, readOnly, 1, tail)
		noRaise(t, s, errOver, readOnly, lastPage, tail)
		noRaise(t, s, errThere, readOnly, 0, tail)
		noRaise(t, s, errThere, readOnly, tail, tail)
		noRaise(t, s, errThere, readOnly, -1, tail)
	}
	raise(t, s, readOnly, 1, 1)
	noRaise(t, s, errOver, readOnly, 2, 1)
	noRaise(t, s, errOver, readOnly, 2, 0)
	noRaise(t, s, errOver, readOnly, 2, belowAll)
	noRaise(t, s, errThere, readOnly, 1, 0)
	noRaise(t, s, errOver, readOnly, lastPage, farTail-1)
	for mark := range count {
		raise(t, s, mark, lastPage, farTail)
	}
	for mark := range count {
		noRaise(t, s, errThere, mark, lastPage, farTail)
		noRaise(t, s, errThere, mark, 0, 0)
	}
}

// The marks behind the first one don't ask for the tail.
func TestATailThatIsBelowTheMarks(t *testing.T) {
	for _, tail := range []int{belowAll, -1, 0, 1, 19, 20, 21} {
		s := made(t, model{20, 0, 0, 0, 0})
		for _, mark := range []int{safe, flushed, head, gone} {
			raise(t, s, mark, 20, tail)
		}
		stand(t, s, model{20, 20, 20, 20, 20})
		for _, mark := range []int{safe, flushed, head, gone} {
			noRaise(t, s, errOver, mark, 21, tail)
		}
	}
}

func TestGreatNumbers(t *testing.T) {
	for _, n := range []int{math.MaxInt32, math.MaxInt32 + 1, 1 << 32, 1<<32 + 1, 1<<53 + 1, lastPage - 1, lastPage} {
		at := model{n, n - 1, n - 2, n - 3, n - 4}
		s := made(t, at)
		for p := n - 5; p < n; p++ {
			want := []int{disk, disk, onlyRead, onlyRead, fuzzy}[p-n+5]
			region(t, s, p, n, want)
		}
		region(t, s, n, n, mutable)
		region(t, s, n, n-1, none)
		region(t, s, 0, n, disk)
		region(t, s, belowAll, n, none)
	}
}

// Which error comes first, where several hold.
func TestFirstErrors(t *testing.T) {
	s := made(t, model{9, 7, 5, 3, 1})
	for _, mark := range []int{-1, 5, belowAll, math.MaxInt} {
		noRaise(t, s, errArg, mark, 0, 0)
		noRaise(t, s, errArg, mark, -1, -1)
		noRaise(t, s, errArg, mark, 1, 9)
		noRaise(t, s, errArg, mark, lastPage, 0)
	}
	// Not above what it is, and above Most, both: as of a tail that is below MarkReadOnly.
	for _, x := range [][2]int{{9, 8}, {9, 0}, {9, -1}, {5, 4}, {1, 0}, {0, -1}, {-1, -2}, {-1, belowAll}} {
		noRaise(t, s, errThere, readOnly, x[0], x[1])
	}
	noRaise(t, s, errOver, readOnly, 10, 8)
	noRaise(t, s, errOver, readOnly, 10, 9)
	noBegin(t, s, errArg, -1)
	noBegin(t, s, errArg, belowAll)
	noBegin(t, s, errThere, 0)
}

// All marks up to a number, all raises and all regions round them.
func TestAllSmallSets(t *testing.T) {
	for _, at := range ordered(4) {
		for tail := -1; tail <= 6; tail++ {
			s := made(t, at)
			for page := -2; page <= 7; page++ {
				region(t, s, page, tail, at.region(page, tail))
			}
			for mark := -1; mark <= count; mark++ {
				for to := -1; to <= 7; to++ {
					s, m := made(t, at), at
					if g, want := s.Raise(mark, to, tail), m.raise(mark, to, tail); g != want {
						t.Fatalf("%v: Raise(%d, %d, %d) tells %d, not %d", at, mark, to, tail, g, want)
					}
					stand(t, s, m)
				}
			}
		}
	}
}

func TestRegionsOfOneSet(t *testing.T) {
	s := made(t, model{8, 6, 5, 3, 1})
	const tail = 10
	want := map[int]int{
		-1: none,
		0:  disk, 1: disk, 2: disk,
		3: onlyRead, 4: onlyRead, 5: onlyRead,
		6: fuzzy, 7: fuzzy,
		8: mutable, 9: mutable, 10: mutable,
		11: none,
	}
	for page, r := range want {
		region(t, s, page, tail, r)
	}
	for _, page := range []int{belowAll, belowAll + 1, math.MinInt32, -8, -2, 12, 1 << 32, 1<<32 + 4, lastPage - 1, lastPage} {
		region(t, s, page, tail, none)
	}
	stand(t, s, model{8, 6, 5, 3, 1})
}

// MarkFlushed and MarkGone part no regions.
func TestFlushedAndGonePartNothing(t *testing.T) {
	for _, at := range ordered(5) {
		s := made(t, at)
		other := at
		other[flushed], other[gone] = at[head], 0
		o := made(t, other)
		for page := -1; page <= 6; page++ {
			if g, want := s.Region(page, 5), o.Region(page, 5); g != want {
				t.Fatalf("%v and %v: Region(%d) is %d, and %d", at, other, page, g, want)
			}
		}
	}
}

func TestMarksThatStandTogether(t *testing.T) {
	s := made(t, model{4, 4, 4, 4, 4})
	for page, want := range []int{disk, disk, disk, disk, mutable, mutable, none} {
		region(t, s, page, 5, want)
	}
	s = made(t, model{4, 4, 4, 2, 0})
	for page, want := range []int{disk, disk, onlyRead, onlyRead, mutable, mutable, none} {
		region(t, s, page, 5, want)
	}
	s = made(t, model{4, 2, 2, 2, 2})
	for page, want := range []int{disk, disk, fuzzy, fuzzy, mutable, mutable, none} {
		region(t, s, page, 5, want)
	}
	s = made(t, model{4, 4, 0, 0, 0})
	for page, want := range []int{onlyRead, onlyRead, onlyRead, onlyRead, mutable, mutable, none} {
		region(t, s, page, 5, want)
	}
	s = made(t, model{4, 0, 0, 0, 0})
	for page, want := range []int{fuzzy, fuzzy, fuzzy, fuzzy, mutable, mutable, none} {
		region(t, s, page, 5, want)
	}
}

// What is above the tail's page is none, whatever the marks say.
func TestATailBelowTheMarksHidesPages(t *testing.T) {
	s := made(t, model{8, 6, 5, 3, 1})
	for tail := -1; tail <= 9; tail++ {
		for page := -1; page <= 10; page++ {
			want := none
			if page >= 0 && page <= tail {
				want = []int{disk, disk, disk, onlyRead, onlyRead, onlyRead, fuzzy, fuzzy, mutable, mutable}[page]
			}
			region(t, s, page, tail, want)
		}
	}
	for _, tail := range []int{-1, -2, belowAll} {
		for _, page := range []int{belowAll, -3, -2, -1, 0, 1, 8, lastPage} {
			region(t, s, page, tail, none)
		}
	}
	region(t, s, 0, 0, disk)
	region(t, s, lastPage, farTail, mutable)
	region(t, s, lastPage, farTail-1, none)
}

// P13.2

func TestBegin(t *testing.T) {
	for _, page := range []int{0, 1, 2, 63, 64, 65, 1 << 32, greatPage, lastPage - 1, lastPage} {
		s := made(t, model{})
		begin(t, s, page)
		stand(t, s, model{page, page, page, page, page})
		region(t, s, page, page, mutable)
		region(t, s, page, farTail, mutable)
		if page > 0 {
			region(t, s, page-1, page, disk)
			region(t, s, 0, page, disk)
			region(t, s, page, page-1, none)
			for _, again := range []int{0, 1, page - 1, page, lastPage} {
				noBegin(t, s, errThere, again)
			}
		}
	}
}

func TestBeginBelowNought(t *testing.T) {
	for _, at := range []model{{}, {1, 0, 0, 0, 0}, {3, 3, 3, 3, 3}} {
		s := made(t, at)
		for _, page := range []int{-1, -2, math.MinInt32, -1 << 32, belowAll + 1, belowAll} {
			noBegin(t, s, errArg, page)
		}
	}
	s := made(t, model{})
	noBegin(t, s, errArg, -1)
	begin(t, s, 3)
	stand(t, s, model{3, 3, 3, 3, 3})
}

// All of them are 0 still, when it began at 0.
func TestBeginOfNought(t *testing.T) {
	s := made(t, model{})
	begin(t, s, 0)
	begin(t, s, 0)
	stand(t, s, model{})
	begin(t, s, 7)
	stand(t, s, model{7, 7, 7, 7, 7})
	noBegin(t, s, errThere, 0)
	noBegin(t, s, errThere, 7)
	noBegin(t, s, errThere, 8)
}

func TestBeginBehindARaise(t *testing.T) {
	for _, at := range ordered(2) {
		s := made(t, at)
		if at == (model{}) {
			begin(t, s, 5)
			continue
		}
		for _, page := range []int{0, 1, 2, 5, lastPage} {
			noBegin(t, s, errThere, page)
		}
		noBegin(t, s, errArg, -1)
	}
	// A raise that was refused leaves the way free.
	s := made(t, model{})
	noRaise(t, s, errOver, readOnly, 4, 3)
	noRaise(t, s, errOver, gone, 1, 3)
	begin(t, s, 2)
}

func TestRaiseBehindABegin(t *testing.T) {
	s := made(t, model{})
	begin(t, s, 6)
	for mark := range count {
		noRaise(t, s, errThere, mark, 6, 9)
		noRaise(t, s, errThere, mark, 5, 9)
		noRaise(t, s, errThere, mark, 0, 9)
		noRaise(t, s, errOver, mark, 10, 9)
	}
	for _, mark := range []int{safe, flushed, head, gone} {
		noRaise(t, s, errOver, mark, 7, 9)
	}
	want := model{6, 6, 6, 6, 6}
	for mark := range count {
		raise(t, s, mark, 9-mark/2, 9)
		want[mark] = 9 - mark/2
		stand(t, s, want)
	}
	noBegin(t, s, errThere, 9)
	o := made(t, model{})
	begin(t, o, 0)
	raise(t, o, readOnly, 1, 1)
	noBegin(t, o, errThere, 0)
	noBegin(t, o, errThere, 3)
}

// P13.3

// run is a set, what it should be, and what was told of some pages' regions.
type run struct {
	t    *testing.T
	s    *marks.Set
	m    model
	tail int
	saw  []int
}

func newRun(t *testing.T, pages int) *run {
	return &run{t: t, s: made(t, model{}), saw: make([]int, pages)}
}

func (x *run) raise(mark, to int) {
	x.t.Helper()
	if g, want := x.s.Raise(mark, to, x.tail), x.m.raise(mark, to, x.tail); g != want {
		x.t.Fatalf("%v: Raise(%d, %d, %d) tells %d, not %d", x.m, mark, to, x.tail, g, want)
	}
}

func (x *run) begin(page int) {
	x.t.Helper()
	if g, want := x.s.Begin(page), x.m.begin(page); g != want {
		x.t.Fatalf("%v: Begin(%d) tells %d, not %d", x.m, page, g, want)
	}
}

// goesOn: no mark has fallen since then, they are in order, and no page's region went back.
func (x *run) goesOn(was []int) {
	x.t.Helper()
	l := x.s.All()
	if !slices.Equal(l, x.m[:]) {
		x.t.Fatalf("All is %v, not %v", l, x.m)
	}
	for mark, at := range l {
		if at < was[mark] {
			x.t.Fatalf("the mark %d falls: %v, then %v", mark, was, l)
		}
		if mark > 0 && at > l[mark-1] {
			x.t.Fatalf("out of order: %v", l)
		}
	}
	for page, saw := range x.saw {
		r := x.s.Region(page, x.tail)
		if r < saw || r != x.m.region(page, x.tail) {
			x.t.Fatalf("%v, tail %d: page %d was %d, and is %d", l, x.tail, page, saw, r)
		}
		x.saw[page] = r
	}
}

// Each run of four calls, of all that are near.
func TestAllShortRuns(t *testing.T) {
	var calls []func(x *run)
	for mark := range count {
		for to := 1; to <= 2; to++ {
			calls = append(calls, func(x *run) { x.raise(mark, to) })
		}
	}
	calls = append(calls, func(x *run) { x.tail++ }, func(x *run) { x.begin(0) }, func(x *run) { x.begin(1) })
	n := len(calls)
	for which := range n * n * n * n {
		x := newRun(t, 4)
		x.tail = 1
		for rest, i := which, 0; i < 4; rest, i = rest/n, i+1 {
			was := x.s.All()
			calls[rest%n](x)
			x.goesOn(was)
		}
	}
}

// Long runs by lot, while the tail rises: no mark falls, no page's region goes back.
func TestRunsByLot(t *testing.T) {
	for seed := range 100 {
		r := rand.New(rand.NewSource(int64(seed)))
		x := newRun(t, 70)
		for range 800 {
			was := x.s.All()
			mark := r.Intn(count+2) - 1
			switch r.Intn(12) {
			case 0, 1:
				x.tail += r.Intn(3)
			case 2:
				if r.Intn(20) == 0 {
					x.begin(r.Intn(6) - 1)
				}
			case 3:
				x.raise(mark, []int{belowAll, -1, 0, 1, x.tail, x.tail + 1, lastPage}[r.Intn(7)])
			case 4, 5:
				x.raise(mark, x.m.most(mark, x.tail)+r.Intn(3)-1)
			default:
				x.raise(mark, x.m.at(mark)+r.Intn(5)-1)
			}
			x.goesOn(was)
		}
	}
}

// A page goes through all regions, one behind the other.
func TestAPageGoesThroughAllRegions(t *testing.T) {
	for page := range 20 {
		s := made(t, model{})
		region(t, s, page, page-1, none)
		region(t, s, page, page, mutable)
		tail := page + 1
		region(t, s, page, tail, mutable)
		if page > 0 {
			raise(t, s, readOnly, page, tail)
			region(t, s, page, tail, mutable)
			region(t, s, page-1, tail, fuzzy)
		}
		for mark, want := range []int{fuzzy, onlyRead, onlyRead, disk, disk} {
			raise(t, s, mark, page+1, tail)
			region(t, s, page, tail, want)
			region(t, s, page+1, tail, mutable)
		}
	}
}

// The rules that hold everywhere

func TestWhatIsHandedOutIsTheCallersOwn(t *testing.T) {
	at := model{9, 7, 5, 3, 1}
	s := made(t, at)
	l, o := s.All(), s.All()
	l = l[:cap(l)]
	for i := range l {
		l[i] = -1
	}
	if !slices.Equal(o, at[:]) {
		t.Fatalf("two answers share memory: %v", o)
	}
	stand(t, s, at)
	region(t, s, 8, 10, fuzzy)
	raise(t, s, readOnly, 10, 10)
	if !slices.Equal(o, at[:]) {
		t.Fatalf("an answer turns with the marks: %v", o)
	}
	stand(t, s, model{10, 7, 5, 3, 1})
}

func TestSetsAreApart(t *testing.T) {
	s, o := made(t, model{}), made(t, model{})
	raise(t, s, readOnly, 4, 5)
	stand(t, o, model{})
	begin(t, o, 2)
	stand(t, s, model{4, 0, 0, 0, 0})
	stand(t, o, model{2, 2, 2, 2, 2})
}

func TestNilSet(t *testing.T) {
	var s *marks.Set
	for _, mark := range append([]int{0, 1, 2, 3, 4}, strangers...) {
		if n := s.At(mark); n != 0 {
			t.Fatalf("At(%d) is %d", mark, n)
		}
		for _, tail := range near(7) {
			if n := s.Most(mark, tail); n != 0 {
				t.Fatalf("Most(%d, %d) is %d", mark, tail, n)
			}
			for _, to := range near(7) {
				if e := s.Raise(mark, to, tail); e != errNil {
					t.Fatalf("Raise(%d, %d, %d) tells %d", mark, to, tail, e)
				}
			}
		}
	}
	for _, page := range near(7) {
		if e := s.Begin(page); e != errNil {
			t.Fatalf("Begin(%d) tells %d", page, e)
		}
		for _, tail := range near(7) {
			if r := s.Region(page, tail); r != none {
				t.Fatalf("Region(%d, %d) is %d", page, tail, r)
			}
		}
	}
	if l := s.All(); len(l) != 0 {
		t.Fatalf("All is %v", l)
	}
}

// The same calls tell the same.
func TestTheSameCallsTellTheSame(t *testing.T) {
	calls := func() string {
		r := rand.New(rand.NewSource(5))
		s := made(t, model{})
		told := ""
		for i := range 300 {
			mark, to, page := r.Intn(7)-1, r.Intn(30), r.Intn(40)-5
			told += fmt.Sprint(s.Raise(mark, to, i/10), s.Region(page, i/10), s.Most(mark, i/10), s.All(), " ")
		}
		return told
	}
	if calls() != calls() {
		t.Fatal("two runs of the same calls differ")
	}
}
