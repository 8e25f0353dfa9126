package drain_test

import (
	"math"
	"math/rand"
	"slices"
	"testing"

	"haycroft/api"
	"haycroft/drain"
)

const greatest = math.MaxUint64

// model is a list as the chapter tells it: each action that was ever put, and whether it has gone.
type model struct {
	put  []api.Action
	gone []bool
}

func (m *model) waits() []api.Action {
	var l []api.Action
	for i, a := range m.put {
		if !m.gone[i] {
			l = append(l, a)
		}
	}
	return l
}

func (m *model) add(a api.Action) api.Errno {
	if len(m.waits()) == 16 {
		return api.ErrFull
	}
	m.put, m.gone = append(m.put, a), append(m.gone, false)
	return api.OK
}

func (m *model) ready(safe uint64) []api.Action {
	var l []api.Action
	for i, a := range m.put {
		if !m.gone[i] && !(a.Epoch > safe) {
			l = append(l, a)
			m.gone[i] = true
		}
	}
	return l
}

// least looks for an epoch of one that waits which none that waits is below.
func (m *model) least() uint64 {
	l := m.waits()
	for _, a := range l {
		if !slices.ContainsFunc(l, func(b api.Action) bool { return b.Epoch < a.Epoch }) {
			return a.Epoch
		}
	}
	return 0
}

// has holds all that a list tells against what it should have, twice, since to tell changes nothing.
func has(t *testing.T, l *drain.List, want []api.Action, least uint64) {
	t.Helper()
	for range 2 {
		if g := l.Waiting(); !slices.Equal(g, want) {
			t.Fatalf("Waiting is %v, not %v", g, want)
		}
		if g := l.Len(); g != len(want) {
			t.Fatalf("Len is %d, not %d", g, len(want))
		}
		if g := l.Least(); g != least {
			t.Fatalf("Least is %d, not %d", g, least)
		}
	}
}

// put is a Put that must do, of each.
func put(t *testing.T, l *drain.List, as ...api.Action) {
	t.Helper()
	for i, a := range as {
		if e := l.Put(a); e != api.OK {
			t.Fatalf("Put of %v, the one at %d: error %d", a, i, e)
		}
	}
}

// ready is a Ready that must tell just these.
func ready(t *testing.T, l *drain.List, safe uint64, want ...api.Action) {
	t.Helper()
	if g := l.Ready(safe); !slices.Equal(g, want) {
		t.Fatalf("Ready(%d) is %v, not %v", safe, g, want)
	}
}

// of is a new list with one action of each epoch, which are told by their pages too.
func of(t *testing.T, epochs ...uint64) (*drain.List, []api.Action) {
	t.Helper()
	l := drain.New()
	var as []api.Action
	for i, e := range epochs {
		as = append(as, api.Action{Epoch: e, Kind: 1 + i%2, Page: i})
	}
	put(t, l, as...)
	return l, as
}

// from are those of a list at these places.
func from(as []api.Action, at ...int) []api.Action {
	var l []api.Action
	for _, i := range at {
		l = append(l, as[i])
	}
	return l
}

// P7.1: New, Put.

func TestNewHasNothing(t *testing.T) {
	l := drain.New()
	if l == nil {
		t.Fatal("nil")
	}
	has(t, l, nil, 0)
	ready(t, l, 0)
	ready(t, l, greatest)
	has(t, l, nil, 0)
}

func TestPutIsTheLastOne(t *testing.T) {
	l := drain.New()
	var want []api.Action
	least := uint64(greatest)
	for i, e := range []uint64{9, 3, 3, 12, 0, 7, greatest, 1, 1, 2, 9, greatest - 1, 0, 5, 4, 6} {
		a := api.Action{Epoch: e, Kind: 1 + i%2, Page: i}
		put(t, l, a)
		want = append(want, a)
		least = min(least, e)
		has(t, l, want, least)
	}
}

func TestPutTakesAnyAction(t *testing.T) {
	l := drain.New()
	all := []api.Action{
		{},
		{Epoch: 1, Kind: api.ActReadOnly, Page: 5},
		{Epoch: 1, Kind: api.ActHead, Page: 5},
		{Epoch: 2, Kind: 3, Page: 64},
		{Epoch: 2, Kind: -1, Page: -1},
		{Epoch: greatest, Kind: math.MaxInt, Page: math.MinInt},
		{Epoch: greatest, Kind: math.MinInt, Page: math.MaxInt},
	}
	put(t, l, all...)
	has(t, l, all, 0)
	ready(t, l, greatest, all...)
	has(t, l, nil, 0)
}

func TestPutIntoAFullListChangesNothing(t *testing.T) {
	l, as := of(t, slices.Repeat([]uint64{4}, 15)...)
	has(t, l, as, 4)
	last := api.Action{Epoch: 5, Kind: 2, Page: 15}
	put(t, l, last)
	as = append(as, last)
	if len(as) != api.MaxActions || api.MaxActions != 16 {
		t.Fatal(len(as))
	}
	has(t, l, as, 4)
	for _, a := range []api.Action{{}, {Epoch: 3}, {Epoch: 4, Kind: 1}, as[0], last, {Epoch: greatest, Kind: 2, Page: 63}} {
		if e := l.Put(a); e != api.ErrFull {
			t.Errorf("Put of %v: error %d", a, e)
		}
		has(t, l, as, 4)
	}
	ready(t, l, 3)
	ready(t, l, greatest, as...)
	has(t, l, nil, 0)
}

func TestPutAgainWhenReadyHasMadeRoom(t *testing.T) {
	l, as := of(t, 8, 8, 8, 1, 8, 8, 8, 8, 8, 8, 8, 8, 8, 8, 8, 8)
	one := api.Action{Epoch: 2, Kind: 2, Page: 20}
	ready(t, l, 0)
	if e := l.Put(one); e != api.ErrFull {
		t.Error("a Ready that told none made room", e)
	}
	ready(t, l, 1, as[3])
	put(t, l, one)
	want := append(append(slices.Clone(as[:3]), as[4:]...), one)
	has(t, l, want, 2)
	if e := l.Put(one); e != api.ErrFull {
		t.Error("room for more than one", e)
	}
	has(t, l, want, 2)
	ready(t, l, 8, want...)
	for i := range 16 {
		put(t, l, api.Action{Page: i})
	}
	if e := l.Put(one); e != api.ErrFull {
		t.Error(e)
	}
	if l.Len() != 16 {
		t.Error(l.Len())
	}
}

// P7.1: Ready.

func TestReadyOfTheExample(t *testing.T) {
	l, as := of(t, 3)
	ready(t, l, 2)
	has(t, l, as, 3)
	ready(t, l, 3, as[0])
	ready(t, l, 3)
	has(t, l, nil, 0)
}

func TestReadyJustBelowAtAndAboveAnEpoch(t *testing.T) {
	for _, e := range []uint64{0, 1, 2, 3, 1<<31 - 1, 1 << 31, 1<<32 - 1, 1 << 32, 1<<63 - 1, 1 << 63, 1<<63 + 1, greatest - 1, greatest} {
		for _, safe := range []uint64{0, 1, e / 2, e - 1, e, e + 1, e ^ 1<<63, greatest - 1, greatest} {
			l, as := of(t, e)
			if e > safe {
				ready(t, l, safe)
				has(t, l, as, e)
				continue
			}
			ready(t, l, safe, as[0])
			has(t, l, nil, 0)
		}
	}
}

func TestReadyOfTheLeastAndOfTheGreatestNumber(t *testing.T) {
	l, as := of(t, 1, 0, greatest, 0, greatest-1, 2)
	ready(t, l, 0, from(as, 1, 3)...)
	has(t, l, from(as, 0, 2, 4, 5), 1)
	ready(t, l, 0)
	ready(t, l, greatest-1, from(as, 0, 4, 5)...)
	has(t, l, from(as, 2), greatest)
	ready(t, l, greatest, as[2])
	ready(t, l, greatest)
	has(t, l, nil, 0)
}

func TestReadyKeepsBothOrders(t *testing.T) {
	for _, c := range []struct {
		epochs []uint64
		safe   uint64
		told   []int
		rest   []int
		least  uint64
	}{
		{[]uint64{1, 2, 3, 4, 5}, 0, nil, []int{0, 1, 2, 3, 4}, 1},
		{[]uint64{1, 2, 3, 4, 5}, 1, []int{0}, []int{1, 2, 3, 4}, 2},
		{[]uint64{1, 2, 3, 4, 5}, 3, []int{0, 1, 2}, []int{3, 4}, 4},
		{[]uint64{1, 2, 3, 4, 5}, 5, []int{0, 1, 2, 3, 4}, nil, 0},
		{[]uint64{5, 4, 3, 2, 1}, 0, nil, []int{0, 1, 2, 3, 4}, 1},
		{[]uint64{5, 4, 3, 2, 1}, 1, []int{4}, []int{0, 1, 2, 3}, 2},
		{[]uint64{5, 4, 3, 2, 1}, 3, []int{2, 3, 4}, []int{0, 1}, 4},
		{[]uint64{5, 4, 3, 2, 1}, 6, []int{0, 1, 2, 3, 4}, nil, 0},
		{[]uint64{7, 2, 9, 2, 7}, 2, []int{1, 3}, []int{0, 2, 4}, 7},
		{[]uint64{7, 2, 9, 2, 7}, 7, []int{0, 1, 3, 4}, []int{2}, 9},
		{[]uint64{2, 7, 2, 9, 2}, 6, []int{0, 2, 4}, []int{1, 3}, 7},
		{[]uint64{4, 4, 4, 4, 4}, 3, nil, []int{0, 1, 2, 3, 4}, 4},
		{[]uint64{4, 4, 4, 4, 4}, 4, []int{0, 1, 2, 3, 4}, nil, 0},
		{[]uint64{9, 9, 1, 9, 9}, 8, []int{2}, []int{0, 1, 3, 4}, 9},
		{[]uint64{1, 9, 9, 9, 9}, 8, []int{0}, []int{1, 2, 3, 4}, 9},
		{[]uint64{9, 9, 9, 9, 1}, 8, []int{4}, []int{0, 1, 2, 3}, 9},
	} {
		l, as := of(t, c.epochs...)
		ready(t, l, c.safe, from(as, c.told...)...)
		has(t, l, from(as, c.rest...), c.least)
		ready(t, l, c.safe)
		has(t, l, from(as, c.rest...), c.least)
		if c.safe > 0 {
			ready(t, l, c.safe-1)
			ready(t, l, 0)
		}
		has(t, l, from(as, c.rest...), c.least)
		ready(t, l, greatest, from(as, c.rest...)...)
		has(t, l, nil, 0)
	}
}

func TestReadyOfAFullListTellsEachPart(t *testing.T) {
	// A bit for each action: set, it is ready.
	for set := 0; set < 1<<16; set += 1 + set%7 {
		l := drain.New()
		var told, rest []api.Action
		for i := range 16 {
			a := api.Action{Epoch: 6, Kind: 1, Page: i}
			if set>>i&1 == 1 {
				a.Epoch = 5
				told = append(told, a)
			} else {
				rest = append(rest, a)
			}
			put(t, l, a)
		}
		least := uint64(6)
		if len(rest) == 0 {
			least = 0
		}
		ready(t, l, 5, told...)
		has(t, l, rest, least)
	}
}

func TestReadyKeepsNoNumber(t *testing.T) {
	// What was asked for once says nothing of an action that is put later.
	l, _ := of(t)
	ready(t, l, 100)
	low := api.Action{Epoch: 3, Kind: 1, Page: 1}
	put(t, l, low)
	has(t, l, []api.Action{low}, 3)
	ready(t, l, 2)
	has(t, l, []api.Action{low}, 3)
	ready(t, l, 3, low)
}

func TestEqualActionsAreToldEachOnce(t *testing.T) {
	l := drain.New()
	same := api.Action{Epoch: 2, Kind: 1, Page: 4}
	other := api.Action{Epoch: 3, Kind: 1, Page: 4}
	put(t, l, same, other, same, same, other)
	has(t, l, []api.Action{same, other, same, same, other}, 2)
	ready(t, l, 2, same, same, same)
	has(t, l, []api.Action{other, other}, 3)
	put(t, l, same)
	has(t, l, []api.Action{other, other, same}, 2)
	ready(t, l, 2, same)
	ready(t, l, 3, other, other)
	has(t, l, nil, 0)
}

// P7.1: Least, Waiting, Len.

func TestLeast(t *testing.T) {
	l := drain.New()
	has(t, l, nil, 0)
	a, b, c := api.Action{Epoch: 9, Page: 1}, api.Action{Epoch: 4, Page: 2}, api.Action{Epoch: 4, Page: 3}
	put(t, l, a)
	has(t, l, []api.Action{a}, 9)
	put(t, l, b)
	has(t, l, []api.Action{a, b}, 4)
	put(t, l, c)
	has(t, l, []api.Action{a, b, c}, 4)
	ready(t, l, 4, b, c)
	has(t, l, []api.Action{a}, 9)
	ready(t, l, 9, a)
	has(t, l, nil, 0)
	put(t, l, api.Action{Epoch: greatest})
	has(t, l, []api.Action{{Epoch: greatest}}, greatest)
	put(t, l, api.Action{})
	has(t, l, []api.Action{{Epoch: greatest}, {}}, 0)
}

func TestListsAreApart(t *testing.T) {
	l, as := of(t, 1, 2)
	k, bs := of(t, 2, 1, 1)
	ready(t, l, 1, as[0])
	has(t, k, bs, 1)
	has(t, l, as[1:], 2)
	ready(t, k, 2, bs...)
	has(t, l, as[1:], 2)
}

// What is handed out is the caller's own.

// spoil writes to all of a list that was handed out, its spare room too.
func spoil(as []api.Action) {
	as = as[:cap(as)]
	for i := range as {
		as[i] = api.Action{Epoch: 77, Kind: 77, Page: 77}
	}
}

func TestWhatIsHandedOutIsNewMemory(t *testing.T) {
	for n := 0; n <= 16; n++ {
		for safe := uint64(0); safe <= 3; safe++ {
			l, m := drain.New(), &model{}
			for i := range n {
				a := api.Action{Epoch: 1 + uint64(i*5%3), Kind: 1, Page: i}
				put(t, l, a)
				m.add(a)
			}
			w := l.Waiting()
			kept := slices.Clone(w)
			spoil(l.Waiting())
			has(t, l, m.waits(), m.least())
			told, want := l.Ready(safe), m.ready(safe)
			if !slices.Equal(told, want) {
				t.Fatal(n, safe, told, want)
			}
			spoil(l.Waiting())
			has(t, l, m.waits(), m.least())
			// What is put later is laid neither into what was told nor into what was told to wait.
			for i := range 16 - l.Len() {
				a := api.Action{Epoch: 1, Kind: 2, Page: 30 + i}
				put(t, l, a)
				m.add(a)
			}
			later := l.Ready(2)
			if wants := m.ready(2); !slices.Equal(later, wants) {
				t.Fatal(n, safe, later, wants)
			}
			if !slices.Equal(told, want) || !slices.Equal(w, kept) {
				t.Fatal(n, safe, "an answer was written to")
			}
			spoil(told)
			spoil(w)
			has(t, l, m.waits(), m.least())
			spoil(later)
			has(t, l, m.waits(), m.least())
		}
	}
}

// Wrong inputs.

func TestNilList(t *testing.T) {
	var l *drain.List
	for _, a := range []api.Action{{}, {Epoch: 1, Kind: api.ActHead, Page: 3}, {Epoch: greatest, Kind: -1, Page: -1}} {
		if e := l.Put(a); e != api.ErrNil {
			t.Error(a, e)
		}
	}
	for _, safe := range []uint64{0, 1, greatest} {
		if g := l.Ready(safe); len(g) != 0 {
			t.Error(safe, g)
		}
	}
	if g := l.Waiting(); len(g) != 0 {
		t.Error(g)
	}
	if l.Len() != 0 || l.Least() != 0 {
		t.Error(l.Len(), l.Least())
	}
}

// P7.1 and P7.2: runs of calls held against the model.

func TestEachShortRun(t *testing.T) {
	const calls, long = 7, 6
	runs := 1
	for range long {
		runs *= calls
	}
	for run := range runs {
		l, m := drain.New(), &model{}
		for i, left := 0, run; i < long; i, left = i+1, left/calls {
			if n := uint64(left % calls); n < 4 {
				a := api.Action{Epoch: n, Kind: 1, Page: i}
				put(t, l, a)
				m.add(a)
			} else {
				ready(t, l, n-4, m.ready(n-4)...)
			}
			if g := l.Waiting(); !slices.Equal(g, m.waits()) {
				t.Fatal(run, i, g)
			}
			if l.Least() != m.least() || l.Len() != len(m.waits()) {
				t.Fatal(run, i, l.Least(), l.Len())
			}
		}
	}
}

// follower counts of each action, told by its page, how often it was told, while a list is filled and drained.
type follower struct {
	put  []api.Action
	told []int
}

// tell checks that each action that was told is one that was put, hasn't been told before, and isn't ahead of its epoch.
func (f *follower) tell(t *testing.T, safe uint64, l []api.Action) {
	t.Helper()
	for _, a := range l {
		if a.Page < 0 || a.Page >= len(f.put) || f.put[a.Page] != a {
			t.Fatal("never put", a)
		}
		if a.Epoch > safe {
			t.Fatal("ahead of its epoch", a, safe)
		}
		if f.told[a.Page]++; f.told[a.Page] > 1 {
			t.Fatal("told twice", a)
		}
	}
}

// rest checks that what wasn't told waits, and nothing else.
func (f *follower) rest(t *testing.T, l []api.Action) {
	t.Helper()
	var want []api.Action
	for i, a := range f.put {
		if f.told[i] == 0 {
			want = append(want, a)
		}
	}
	if !slices.Equal(l, want) {
		t.Fatalf("%v wait, not %v", l, want)
	}
}

func TestEachActionIsToldOnceAndNotAheadOfItsEpoch(t *testing.T) {
	r := rand.New(rand.NewSource(7))
	for run := range 200 {
		l, m, f := drain.New(), &model{}, &follower{}
		// Few epochs make many equal ones, many make few; more puts than drains fill the list.
		span, drains := uint64(1+run%40), 1+run%6
		for range 300 {
			if r.Intn(12) < drains {
				safe := uint64(r.Int63n(int64(span)))
				g := l.Ready(safe)
				if want := m.ready(safe); !slices.Equal(g, want) {
					t.Fatal(run, safe, g, want)
				}
				f.tell(t, safe, g)
			} else {
				a := api.Action{Epoch: uint64(r.Int63n(int64(span + 1))), Kind: 1 + r.Intn(2), Page: len(f.put)}
				e := l.Put(a)
				if want := m.add(a); e != want {
					t.Fatal(run, a, e, want)
				}
				if e == api.OK {
					f.put, f.told = append(f.put, a), append(f.told, 0)
				}
			}
			has(t, l, m.waits(), m.least())
			f.rest(t, l.Waiting())
		}
		f.tell(t, span, l.Ready(span))
		f.rest(t, nil)
		has(t, l, nil, 0)
	}
}
