package epoch_test

import (
	"math"
	"math/rand"
	"slices"
	"testing"

	"haycroft/api"
	"haycroft/epoch"
)

// outside are sessions that a table of n sessions hasn't.
func outside(n int) []int {
	return []int{-1, -2, -n, -n - 1, math.MinInt32, math.MinInt, math.MinInt + 1, n, n + 1, 2 * n, api.MaxSessions, api.MaxSessions + 1, 1 << 32, 1<<32 + 1, math.MaxInt - 1, math.MaxInt}
}

// model is a table as the chapter tells it: the present epoch, and of each session what it saw, if it is in.
type model struct {
	now uint64
	in  []bool
	saw []uint64
}

func newModel(n int) *model {
	return &model{now: 1, in: make([]bool, n), saw: make([]uint64, n)}
}

// safe tells of one epoch what the chapter's words say.
func (m *model) safe(e uint64) bool {
	for s, in := range m.in {
		if in && m.saw[s] <= e {
			return false
		}
	}
	return e < m.now
}

// greatest is the greatest safe epoch, looked for from the present one down.
func (m *model) greatest() uint64 {
	for e := m.now; e > 0; e-- {
		if m.safe(e) {
			return e
		}
	}
	return 0
}

func (m *model) inside() []int {
	var l []int
	for s, in := range m.in {
		if in {
			l = append(l, s)
		}
	}
	return l
}

// table is a new one that must be there.
func table(t *testing.T, n int) *epoch.Table {
	t.Helper()
	x, e := epoch.New(n)
	if e != api.OK || x == nil {
		t.Fatal(n, e)
	}
	return x
}

// ok is a call that must do without an error.
func ok(t *testing.T, e api.Errno) {
	t.Helper()
	if e != api.OK {
		t.Fatalf("error %d", e)
	}
}

// bump is one that must tell this epoch.
func bump(t *testing.T, x *epoch.Table, was uint64) {
	t.Helper()
	if n, e := x.Bump(); n != was || e != api.OK {
		t.Fatalf("Bump tells %d, error %d, not %d", n, e, was)
	}
}

// safe holds what is safe, and what is present, against what they should be.
func safe(t *testing.T, x *epoch.Table, now, greatest uint64) {
	t.Helper()
	if x.Now() != now || x.Safe() != greatest {
		t.Fatalf("Now %d, Safe %d, not %d and %d", x.Now(), x.Safe(), now, greatest)
	}
}

// is holds all that a table tells against the model, twice, since to tell changes nothing.
func is(t *testing.T, x *epoch.Table, m *model) {
	t.Helper()
	for range 2 {
		safe(t, x, m.now, m.greatest())
		for s, in := range m.in {
			want := m.saw[s]
			if !in {
				want = 0
			}
			if g := x.Seen(s); g != want {
				t.Fatalf("Seen(%d) is %d, not %d", s, g, want)
			}
		}
		if l := x.In(); !slices.Equal(l, m.inside()) {
			t.Fatalf("In is %v, not %v", l, m.inside())
		}
	}
}

// do makes one change in both, and holds what it tells against what the chapter says.
func do(t *testing.T, x *epoch.Table, m *model, kind, s int) {
	t.Helper()
	there := s >= 0 && s < len(m.in)
	want := api.OK
	switch {
	case kind == 3:
		bump(t, x, m.now)
		m.now++
		return
	case !there:
		want = api.ErrArg
	case kind == 0 && m.in[s]:
		want = api.ErrThere
	case kind == 0:
		m.in[s], m.saw[s] = true, m.now
	case !m.in[s]:
		want = api.ErrNone
	case kind == 1:
		m.saw[s] = m.now
	case kind == 2:
		m.in[s] = false
	}
	calls := []func(int) api.Errno{x.Enter, x.Refresh, x.Leave}
	if e := calls[kind](s); e != want {
		t.Fatalf("call %d of session %d: error %d, not %d", kind, s, e, want)
	}
}

// P6.1: New, Now.

func TestNewHasNobodyIn(t *testing.T) {
	for n := 1; n <= api.MaxSessions; n++ {
		x := table(t, n)
		safe(t, x, 1, 0)
		if l := x.In(); len(l) != 0 {
			t.Error(n, l)
		}
		is(t, x, newModel(n))
	}
}

func TestNewThatCannotBe(t *testing.T) {
	for _, n := range []int{0, -1, -2, -api.MaxSessions, math.MinInt32, math.MinInt, math.MinInt + 1, api.MaxSessions + 1, api.MaxSessions + 2, 64, 65536, 65537, 1 << 32, 1<<32 + 1, math.MaxInt - 1, math.MaxInt} {
		if x, e := epoch.New(n); x != nil || e != api.ErrArg {
			t.Errorf("New(%d): %v, error %d", n, x, e)
		}
	}
}

func TestNewHasAsManySessionsAsAsked(t *testing.T) {
	for n := 1; n <= api.MaxSessions; n++ {
		x, m := table(t, n), newModel(n)
		for s := range n {
			do(t, x, m, 0, s)
		}
		for s := n; s <= api.MaxSessions+1; s++ {
			do(t, x, m, 0, s)
		}
		is(t, x, m)
	}
}

func TestTablesShareNothing(t *testing.T) {
	a, b := table(t, 2), table(t, 2)
	ok(t, a.Enter(1))
	bump(t, a, 1)
	bump(t, a, 2)
	is(t, b, newModel(2))
	ok(t, b.Enter(0))
	safe(t, a, 3, 0)
	safe(t, b, 1, 0)
	if a.Seen(0) != 0 || b.Seen(1) != 0 {
		t.Error(a.In(), b.In())
	}
}

// P6.1: Enter, Refresh, Leave, Seen.

func TestEnterSeesThePresent(t *testing.T) {
	for n := 1; n <= api.MaxSessions; n++ {
		for s := range n {
			x, m := table(t, n), newModel(n)
			for range s + 3 {
				do(t, x, m, 3, 0)
			}
			ok(t, x.Enter(s))
			if x.Seen(s) != uint64(s)+4 {
				t.Error(n, s, x.Seen(s))
			}
			m.in[s], m.saw[s] = true, uint64(s)+4
			is(t, x, m)
		}
	}
}

func TestEnterOfOneWhoIsIn(t *testing.T) {
	for _, s := range []int{0, 3, api.MaxSessions - 1} {
		x := table(t, api.MaxSessions)
		ok(t, x.Enter(s))
		if e := x.Enter(s); e != api.ErrThere {
			t.Error(s, e)
		}
		bump(t, x, 1)
		if e := x.Enter(s); e != api.ErrThere || x.Seen(s) != 1 {
			t.Error(s, e, x.Seen(s))
		}
		safe(t, x, 2, 0)
	}
}

func TestRefreshSeesThePresent(t *testing.T) {
	for _, s := range []int{0, 1, api.MaxSessions - 1} {
		x, m := table(t, api.MaxSessions), newModel(api.MaxSessions)
		for other := range api.MaxSessions {
			do(t, x, m, 0, other)
		}
		do(t, x, m, 3, 0)
		do(t, x, m, 3, 0)
		ok(t, x.Refresh(s))
		m.saw[s] = 3
		is(t, x, m)
		if x.Seen(s) != 3 {
			t.Error(s, x.Seen(s))
		}
	}
}

func TestRefreshWithoutABump(t *testing.T) {
	x := table(t, 2)
	ok(t, x.Enter(1))
	for range 3 {
		ok(t, x.Refresh(1))
		if x.Seen(1) != 1 {
			t.Error(x.Seen(1))
		}
		safe(t, x, 1, 0)
	}
	bump(t, x, 1)
	for range 3 {
		ok(t, x.Refresh(1))
		if x.Seen(1) != 2 {
			t.Error(x.Seen(1))
		}
		safe(t, x, 2, 1)
	}
}

func TestRefreshAndLeaveOfOneWhoIsNot(t *testing.T) {
	for n := 1; n <= api.MaxSessions; n++ {
		x, m := table(t, n), newModel(n)
		for s := range n {
			for range 2 {
				if e := x.Refresh(s); e != api.ErrNone {
					t.Error("Refresh", n, s, e)
				}
				if e := x.Leave(s); e != api.ErrNone {
					t.Error("Leave", n, s, e)
				}
			}
		}
		is(t, x, m)
	}
	x := table(t, 2)
	ok(t, x.Enter(0))
	bump(t, x, 1)
	ok(t, x.Leave(0))
	if e := x.Refresh(0); e != api.ErrNone || x.Seen(0) != 0 {
		t.Error(e, x.Seen(0))
	}
	if e := x.Leave(0); e != api.ErrNone || len(x.In()) != 0 {
		t.Error(e, x.In())
	}
}

func TestEnterLeaveAndEnterAgain(t *testing.T) {
	for _, s := range []int{0, 1, 2} {
		x := table(t, 3)
		for turn := range uint64(4) {
			ok(t, x.Enter(s))
			if x.Seen(s) != turn+1 || !slices.Equal(x.In(), []int{s}) {
				t.Error(s, turn, x.Seen(s), x.In())
			}
			ok(t, x.Leave(s))
			if x.Seen(s) != 0 || len(x.In()) != 0 {
				t.Error(s, turn, x.Seen(s), x.In())
			}
			bump(t, x, turn+1)
		}
	}
}

func TestEnterAgainInTheSameEpoch(t *testing.T) {
	x := table(t, 1)
	bump(t, x, 1)
	for range 3 {
		ok(t, x.Enter(0))
		if x.Seen(0) != 2 {
			t.Error(x.Seen(0))
		}
		safe(t, x, 2, 1)
		ok(t, x.Leave(0))
		safe(t, x, 2, 1)
	}
}

func TestSessionsThatThereAreNot(t *testing.T) {
	for n := 1; n <= api.MaxSessions; n++ {
		for _, all := range []bool{false, true} {
			x, m := table(t, n), newModel(n)
			for s := range n {
				if all {
					do(t, x, m, 0, s)
				}
			}
			do(t, x, m, 3, 0)
			for _, s := range outside(n) {
				if s >= 0 && s < n {
					continue
				}
				if e := x.Enter(s); e != api.ErrArg {
					t.Errorf("Enter(%d) of %d: error %d", s, n, e)
				}
				if e := x.Refresh(s); e != api.ErrArg {
					t.Errorf("Refresh(%d) of %d: error %d", s, n, e)
				}
				if e := x.Leave(s); e != api.ErrArg {
					t.Errorf("Leave(%d) of %d: error %d", s, n, e)
				}
				if w := x.Seen(s); w != 0 {
					t.Errorf("Seen(%d) of %d: %d", s, n, w)
				}
				is(t, x, m)
			}
		}
	}
}

// P6.1: In.

func TestInOfAllWhoMayBe(t *testing.T) {
	for set := range 1 << api.MaxSessions {
		x, m := table(t, api.MaxSessions), newModel(api.MaxSessions)
		// From the last one down: who is told rises nonetheless.
		for s := api.MaxSessions - 1; s >= 0; s-- {
			if set>>s&1 == 1 {
				do(t, x, m, 0, s)
			}
		}
		is(t, x, m)
	}
}

func TestInRisesWhateverTheOrder(t *testing.T) {
	d := rand.New(rand.NewSource(6))
	all := []int{0, 1, 2, 3, 4, 5, 6, 7}
	for range 200 {
		x := table(t, api.MaxSessions)
		for _, s := range d.Perm(api.MaxSessions) {
			ok(t, x.Enter(s))
			if l := x.In(); !slices.IsSorted(l) || !slices.Contains(l, s) {
				t.Fatal(s, l)
			}
			x.Bump()
		}
		if l := x.In(); !slices.Equal(l, all) {
			t.Fatal(l)
		}
		first := d.Intn(api.MaxSessions)
		ok(t, x.Leave(first))
		ok(t, x.Enter(first))
		if l := x.In(); !slices.Equal(l, all) {
			t.Fatal(first, l)
		}
	}
}

func TestInIsNewMemory(t *testing.T) {
	x := table(t, 4)
	for _, s := range []int{3, 0, 2} {
		ok(t, x.Enter(s))
	}
	a, b := x.In(), x.In()
	for i := range a {
		a[i] = 99
	}
	a = append(a, 98)
	if !slices.Equal(b, []int{0, 2, 3}) || !slices.Equal(x.In(), []int{0, 2, 3}) {
		t.Error(a, b, x.In())
	}
	ok(t, x.Leave(0))
	ok(t, x.Enter(1))
	if !slices.Equal(b, []int{0, 2, 3}) || !slices.Equal(a, []int{99, 99, 99, 98}) || !slices.Equal(x.In(), []int{1, 2, 3}) {
		t.Error(a, b, x.In())
	}
}

// P6.2: Bump, Safe.

func TestBumpTellsWhatItWas(t *testing.T) {
	for _, n := range []int{1, api.MaxSessions} {
		x := table(t, n)
		for was := uint64(1); was <= 300; was++ {
			safe(t, x, was, was-1)
			bump(t, x, was)
		}
		safe(t, x, 301, 300)
	}
}

func TestSafeWhenEverybodyIsIn(t *testing.T) {
	for n := 1; n <= api.MaxSessions; n++ {
		x := table(t, n)
		for s := range n {
			ok(t, x.Enter(s))
		}
		safe(t, x, 1, 0)
		bump(t, x, 1)
		for s := range n {
			safe(t, x, 2, 0)
			ok(t, x.Refresh(s))
		}
		safe(t, x, 2, 1)
		bump(t, x, 2)
		for s := n - 1; s >= 0; s-- {
			safe(t, x, 3, 1)
			ok(t, x.Leave(s))
		}
		safe(t, x, 3, 2)
	}
}

func TestOneWhoSawAnEarlyEpochHoldsSafe(t *testing.T) {
	for early := range api.MaxSessions {
		x := table(t, api.MaxSessions)
		bump(t, x, 1)
		ok(t, x.Enter(early))
		for was := uint64(2); was < 6; was++ {
			bump(t, x, was)
		}
		for s := range api.MaxSessions {
			if s != early {
				ok(t, x.Enter(s))
				x.Bump()
				ok(t, x.Refresh(s))
			}
			if x.Safe() != 1 {
				t.Fatal(early, s, x.Safe())
			}
		}
	}
}

func TestBumpsWithOneWhoNeverRefreshes(t *testing.T) {
	for _, s := range []int{0, 1, 2} {
		x := table(t, 3)
		bump(t, x, 1)
		bump(t, x, 2)
		ok(t, x.Enter(s))
		for was := uint64(3); was < 200; was++ {
			bump(t, x, was)
			safe(t, x, was+1, 2)
		}
		ok(t, x.Refresh(s))
		safe(t, x, 200, 199)
	}
}

func TestLeaveOfTheOneWhoHeldSafe(t *testing.T) {
	x := table(t, 3)
	for s := range 3 {
		ok(t, x.Enter(s))
		x.Bump()
		x.Bump()
	}
	// They saw 1, 3 and 5; the present one is 7.
	safe(t, x, 7, 0)
	ok(t, x.Leave(1))
	safe(t, x, 7, 0)
	ok(t, x.Leave(0))
	safe(t, x, 7, 4)
	ok(t, x.Enter(0))
	safe(t, x, 7, 4)
	ok(t, x.Leave(2))
	safe(t, x, 7, 6)
	ok(t, x.Leave(0))
	safe(t, x, 7, 6)
}

func TestSafeOfAllThatWasSeen(t *testing.T) {
	// Three sessions, each out, or in since one of the epochs 1 to 4.
	for a := range 5 {
		for b := range 5 {
			for c := range 5 {
				x, m := table(t, 3), newModel(3)
				for e := 1; e <= 4; e++ {
					for s, saw := range []int{a, b, c} {
						if saw == e {
							do(t, x, m, 0, s)
						}
					}
					is(t, x, m)
					do(t, x, m, 3, 0)
				}
				is(t, x, m)
			}
		}
	}
}

func TestExample(t *testing.T) {
	x := table(t, 1)
	ok(t, x.Enter(0))
	bump(t, x, 1)
	safe(t, x, 2, 0)
	ok(t, x.Refresh(0))
	safe(t, x, 2, 1)
}

// P6.1, P6.2: each run of six calls on two sessions.

func TestAllShortRuns(t *testing.T) {
	const calls, long = 7, 6
	runs := 1
	for range long {
		runs *= calls
	}
	for run := range runs {
		x, m := table(t, 2), newModel(2)
		for left, at := run, 0; at < long; at++ {
			// Calls 0 to 5 are those of the two sessions, 6 is Bump.
			call := left % calls
			do(t, x, m, call/2, call%2)
			left /= calls
		}
		is(t, x, m)
	}
}

// P6.3.

// told is an epoch that Bump told, and who of those who were in then has neither refreshed nor left since.
type told struct {
	epoch uint64
	open  []bool
}

// met tells whether nobody is open any more.
func (w told) met() bool {
	return !slices.Contains(w.open, true)
}

func TestSafeRisesAndFollowsBumps(t *testing.T) {
	d := rand.New(rand.NewSource(63))
	for range 150 {
		n := 1 + d.Intn(api.MaxSessions)
		x, m := table(t, n), newModel(n)
		var waits []told
		was := uint64(0)
		for range 150 {
			kind, s := d.Intn(4), d.Intn(n+2)-1
			if kind == 3 {
				waits = append(waits, told{m.now, slices.Clone(m.in)})
			}
			do(t, x, m, kind, s)
			if (kind == 1 || kind == 2) && s >= 0 && s < n {
				for _, w := range waits {
					w.open[s] = false
				}
			}
			is(t, x, m)
			now := x.Safe()
			if now < was || now >= x.Now() {
				t.Fatalf("Safe was %d, is %d, Now %d", was, now, x.Now())
			}
			was = now
			for _, w := range waits {
				if w.met() != (now >= w.epoch) {
					t.Fatalf("Bump told %d, Safe is %d, open %v", w.epoch, now, w.open)
				}
			}
		}
	}
}

// A nil table.

func TestNilTable(t *testing.T) {
	var x *epoch.Table
	if x.Now() != 0 || x.Safe() != 0 || len(x.In()) != 0 {
		t.Error(x.Now(), x.Safe(), x.In())
	}
	if n, e := x.Bump(); n != 0 || e != api.ErrNil {
		t.Error(n, e)
	}
	for _, s := range append([]int{0, 1, 7}, outside(1)...) {
		if e := x.Enter(s); e != api.ErrNil {
			t.Error("Enter", s, e)
		}
		if e := x.Refresh(s); e != api.ErrNil {
			t.Error("Refresh", s, e)
		}
		if e := x.Leave(s); e != api.ErrNil {
			t.Error("Leave", s, e)
		}
		if w := x.Seen(s); w != 0 {
			t.Error("Seen", s, w)
		}
	}
}
