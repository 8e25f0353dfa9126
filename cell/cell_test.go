package cell_test

import (
	"math"
	"math/rand"
	"slices"
	"sync"
	"testing"

	"haycroft/api"
	"haycroft/cell"
)

const ones = uint64(math.MaxUint64)

// edges are words that cells are given.
func edges() []uint64 {
	return []uint64{0, 1, 2, 5, 255, 1 << 32, 1<<32 - 1, 1<<63 - 1, 1 << 63, ones - 1, ones, 0x0123456789abcdef}
}

// sizes are of rows that can be.
func sizes() []int {
	return []int{1, 2, 3, 5, 64, 4096, cell.MaxCells - 1, cell.MaxCells}
}

// outside are places where a row of n cells has none.
func outside(n int) []int {
	return []int{-1, -2, -n, -n - 1, math.MinInt32, math.MinInt, math.MinInt + 1, n, n + 1, 2 * n, cell.MaxCells, cell.MaxCells + 1, 1 << 32, math.MaxInt - 1, math.MaxInt}
}

// row is a new one that must be there.
func row(t *testing.T, n int) *cell.Row {
	t.Helper()
	r, e := cell.New(n)
	if e != api.OK || r == nil {
		t.Fatal(n, e)
	}
	return r
}

// filled is a row of these words.
func filled(t *testing.T, l ...uint64) *cell.Row {
	t.Helper()
	r := row(t, len(l))
	for i, w := range l {
		if e := r.Store(i, w); e != api.OK {
			t.Fatal(i, e)
		}
	}
	return r
}

// is holds a row against its words and its counts, cell by cell and all at once.
func is(t *testing.T, r *cell.Row, l []uint64, won, lost int) {
	t.Helper()
	if r.Len() != len(l) {
		t.Fatalf("Len %d, not %d", r.Len(), len(l))
	}
	for i, w := range l {
		if g := r.Load(i); g != w {
			t.Errorf("Load(%d) is %d, not %d", i, g, w)
		}
	}
	if g, e := r.Words(0, len(l)); e != api.OK || !slices.Equal(g, l) {
		t.Errorf("Words: %v, error %d, not %v", g, e, l)
	}
	if a, b := r.Counts(); a != won || b != lost {
		t.Errorf("Counts %d and %d, not %d and %d", a, b, won, lost)
	}
}

// try is one that must win, or lose, without an error.
func try(t *testing.T, r *cell.Row, i int, old, now uint64, win bool) {
	t.Helper()
	if ok, e := r.CAS(i, old, now); ok != win || e != api.OK {
		t.Errorf("CAS(%d, %d, %d): %v, error %d", i, old, now, ok, e)
	}
}

// P5.1: New, Len.

func TestMaxCells(t *testing.T) {
	if cell.MaxCells != 65536 {
		t.Error(cell.MaxCells)
	}
}

func TestNewIsOfNoughts(t *testing.T) {
	for _, n := range sizes() {
		r := row(t, n)
		is(t, r, make([]uint64, n), 0, 0)
	}
}

func TestNewThatCannotBe(t *testing.T) {
	for _, n := range []int{0, -1, -2, -cell.MaxCells, math.MinInt32, math.MinInt, math.MinInt + 1, cell.MaxCells + 1, cell.MaxCells * 2, 1 << 32, 1<<32 + 1, math.MaxInt - 1, math.MaxInt} {
		if r, e := cell.New(n); r != nil || e != api.ErrArg {
			t.Errorf("New(%d): %v, error %d", n, r, e)
		}
	}
}

func TestRowsShareNothing(t *testing.T) {
	a, b := row(t, 3), row(t, 3)
	a.Store(1, 7)
	try(t, a, 0, 0, 4, true)
	try(t, a, 0, 0, 4, false)
	is(t, a, []uint64{4, 7, 0}, 1, 1)
	is(t, b, make([]uint64, 3), 0, 0)
}

// P5.1: Load, Store.

func TestLoadOfNoCell(t *testing.T) {
	for _, n := range []int{1, 2, 64, cell.MaxCells} {
		r := row(t, n)
		for i := range n {
			r.Store(i, ones)
		}
		for _, i := range outside(n) {
			if w := r.Load(i); w != 0 {
				t.Errorf("Load(%d) of %d cells is %d", i, n, w)
			}
		}
	}
}

func TestStoreTurnsOneCell(t *testing.T) {
	for _, n := range []int{1, 2, 5} {
		r, l := row(t, n), make([]uint64, n)
		for i := range n {
			for _, w := range edges() {
				if e := r.Store(i, w); e != api.OK {
					t.Error(i, w, e)
				}
				l[i] = w
				is(t, r, l, 0, 0)
			}
		}
	}
}

func TestStoreInTheGreatestRow(t *testing.T) {
	r, l := row(t, cell.MaxCells), make([]uint64, cell.MaxCells)
	for i := range l {
		l[i] = uint64(i)*0x9e3779b97f4a7c15 + 1
		if e := r.Store(i, l[i]); e != api.OK {
			t.Fatal(i, e)
		}
	}
	is(t, r, l, 0, 0)
}

func TestStoreOfNoCell(t *testing.T) {
	r := filled(t, 3, 0, ones)
	for _, i := range outside(3) {
		if e := r.Store(i, 9); e != api.ErrArg {
			t.Errorf("Store(%d): error %d", i, e)
		}
	}
	is(t, r, []uint64{3, 0, ones}, 0, 0)
}

// P5.1: CAS.

func TestTryWinsOrLoses(t *testing.T) {
	for _, i := range []int{0, 1, 2} {
		for _, has := range edges() {
			for _, old := range edges() {
				for _, now := range edges() {
					l := []uint64{has, has, has}
					r := filled(t, l...)
					try(t, r, i, old, now, has == old)
					won, lost := 0, 1
					if has == old {
						l[i], won, lost = now, 1, 0
					}
					is(t, r, l, won, lost)
				}
			}
		}
	}
}

func TestTryOfAWordOffByOneBit(t *testing.T) {
	for _, has := range edges() {
		r := filled(t, has)
		for at := range 64 {
			try(t, r, 0, has^1<<at, 77, false)
		}
		is(t, r, []uint64{has}, 0, 64)
	}
}

func TestTryThatWritesWhatIsThere(t *testing.T) {
	for _, w := range edges() {
		r := filled(t, w, ^w)
		try(t, r, 0, w, w, true)
		is(t, r, []uint64{w, ^w}, 1, 0)
		try(t, r, 0, w, w, true)
		is(t, r, []uint64{w, ^w}, 2, 0)
	}
}

func TestTryOfACellTurnedBack(t *testing.T) {
	r := filled(t, 4, 8)
	try(t, r, 0, 4, 5, true)
	try(t, r, 0, 5, 4, true)
	try(t, r, 0, 4, 6, true)
	is(t, r, []uint64{6, 8}, 3, 0)
	r.Store(1, 9)
	try(t, r, 1, 8, 10, false)
	r.Store(1, 8)
	try(t, r, 1, 8, 10, true)
	r.Add(1, 1)
	r.Add(1, ones)
	try(t, r, 1, 10, 11, true)
	is(t, r, []uint64{6, 11}, 5, 1)
}

func TestTryOfNoCell(t *testing.T) {
	r := filled(t, 0, 0, 0)
	for _, i := range outside(3) {
		for _, w := range edges() {
			if ok, e := r.CAS(i, 0, w); ok || e != api.ErrArg {
				t.Errorf("CAS(%d, 0, %d): %v, error %d", i, w, ok, e)
			}
		}
	}
	is(t, r, []uint64{0, 0, 0}, 0, 0)
}

func TestTryInTheGreatestRow(t *testing.T) {
	r, l := row(t, cell.MaxCells), make([]uint64, cell.MaxCells)
	for _, i := range []int{0, 1, cell.MaxCells - 2, cell.MaxCells - 1} {
		l[i] = uint64(i) + 1
		try(t, r, i, 0, l[i], true)
		try(t, r, i, 0, ones, false)
	}
	is(t, r, l, 4, 4)
}

// P5.1: Add.

func TestAddTellsWhatWasThere(t *testing.T) {
	for _, i := range []int{0, 1, 2} {
		for _, has := range edges() {
			for _, n := range edges() {
				l := []uint64{has, has, has}
				r := filled(t, l...)
				if w, e := r.Add(i, n); w != has || e != api.OK {
					t.Errorf("Add(%d, %d) to %d: %d, error %d", i, n, has, w, e)
				}
				l[i] = has + n
				is(t, r, l, 0, 0)
			}
		}
	}
}

func TestAddGoesRound(t *testing.T) {
	r := filled(t, ones, 1<<63)
	for _, x := range []struct {
		i            int
		n, had, then uint64
	}{{0, 1, ones, 0}, {0, ones, 0, ones}, {0, ones, ones, ones - 1}, {1, 1 << 63, 1 << 63, 0}, {1, 0, 0, 0}} {
		if w, e := r.Add(x.i, x.n); w != x.had || e != api.OK || r.Load(x.i) != x.then {
			t.Errorf("Add(%d, %d): %d, error %d, then %d", x.i, x.n, w, e, r.Load(x.i))
		}
	}
}

func TestAddToNoCell(t *testing.T) {
	r := filled(t, 3, 4, ones)
	for _, i := range outside(3) {
		if w, e := r.Add(i, 1); w != 0 || e != api.ErrArg {
			t.Errorf("Add(%d, 1): %d, error %d", i, w, e)
		}
	}
	is(t, r, []uint64{3, 4, ones}, 0, 0)
}

// P5.2: Words.

func TestWordsOfAllRanges(t *testing.T) {
	l := []uint64{10, 0, ones, 13, 14}
	r := filled(t, l...)
	for from := -3; from <= 9; from++ {
		for n := -3; n <= 9; n++ {
			g, e := r.Words(from, n)
			if n < 0 || from < 0 || from > 5 || from+n > 5 {
				if g != nil || e != api.ErrArg {
					t.Errorf("Words(%d, %d): %v, error %d", from, n, g, e)
				}
				continue
			}
			if e != api.OK || !slices.Equal(g, l[from:from+n]) {
				t.Errorf("Words(%d, %d): %v, error %d", from, n, g, e)
			}
		}
	}
	is(t, r, l, 0, 0)
}

func TestWordsOfRowsOfOneAndOfMost(t *testing.T) {
	for _, n := range []int{1, cell.MaxCells} {
		r := row(t, n)
		r.Store(0, 8)
		r.Store(n-1, 9)
		if l, e := r.Words(n-1, 1); e != api.OK || !slices.Equal(l, []uint64{9}) {
			t.Error(n, l, e)
		}
		if l, e := r.Words(n, 0); e != api.OK || len(l) != 0 {
			t.Error(n, l, e)
		}
		for _, x := range [][2]int{{n, 1}, {n - 1, 2}, {0, n + 1}, {n + 1, 0}, {n + 1, -1}} {
			if l, e := r.Words(x[0], x[1]); l != nil || e != api.ErrArg {
				t.Error(n, x, len(l), e)
			}
		}
	}
}

func TestWordsOfLeastAndGreatest(t *testing.T) {
	r := filled(t, 1, 2, 3)
	ends := []int{math.MinInt, math.MinInt + 1, math.MinInt + 3, -1, math.MaxInt - 3, math.MaxInt - 2, math.MaxInt - 1, math.MaxInt}
	for _, a := range ends {
		for _, b := range append([]int{0, 1, 2, 3}, ends...) {
			if l, e := r.Words(a, b); l != nil || e != api.ErrArg {
				t.Errorf("Words(%d, %d): %d words, error %d", a, b, len(l), e)
			}
			if l, e := r.Words(b, a); l != nil || e != api.ErrArg {
				t.Errorf("Words(%d, %d): %d words, error %d", b, a, len(l), e)
			}
		}
	}
}

func TestWordsAreNewMemory(t *testing.T) {
	r := filled(t, 1, 2, 3)
	a, _ := r.Words(0, 3)
	b, _ := r.Words(0, 3)
	part, _ := r.Words(1, 1)
	for i := range a {
		a[i] = 99
	}
	part = append(part, 98)
	part[0] = 97
	if !slices.Equal(b, []uint64{1, 2, 3}) {
		t.Error(b)
	}
	is(t, r, []uint64{1, 2, 3}, 0, 0)
	r.Store(1, 50)
	if b[1] != 2 || a[1] != 99 || part[0] != 97 {
		t.Error(a, b, part)
	}
}

// P5.2: Fill.

func TestFillOfAllRanges(t *testing.T) {
	was := []uint64{10, 0, ones, 13, 14}
	for from := -3; from <= 9; from++ {
		for n := 0; n <= 9; n++ {
			r, l := filled(t, was...), make([]uint64, n)
			for i := range l {
				l[i] = ones - uint64(i)*3
			}
			e := r.Fill(from, l)
			if from < 0 || from > 5 || from+n > 5 {
				if e != api.ErrArg {
					t.Errorf("Fill(%d) of %d words: error %d", from, n, e)
				}
				is(t, r, was, 0, 0)
				continue
			}
			if e != api.OK {
				t.Errorf("Fill(%d) of %d words: error %d", from, n, e)
			}
			then := slices.Clone(was)
			copy(then[from:], l)
			is(t, r, then, 0, 0)
		}
	}
}

func TestFillOfAllCells(t *testing.T) {
	for _, n := range []int{1, 2, 64, cell.MaxCells} {
		r, l := row(t, n), make([]uint64, n)
		for i := range l {
			l[i] = ones - uint64(i)
		}
		if e := r.Fill(0, l); e != api.OK {
			t.Fatal(n, e)
		}
		is(t, r, l, 0, 0)
		if e := r.Fill(0, append(slices.Clone(l), 5)); e != api.ErrArg {
			t.Error(n, e)
		}
		if e := r.Fill(1, make([]uint64, n)); e != api.ErrArg {
			t.Error(n, e)
		}
		is(t, r, l, 0, 0)
		if e := r.Fill(0, make([]uint64, n)); e != api.OK {
			t.Error(n, e)
		}
		is(t, r, make([]uint64, n), 0, 0)
	}
}

func TestFillOfNoWord(t *testing.T) {
	r := filled(t, 6, 7)
	for _, l := range [][]uint64{nil, {}} {
		for from := 0; from <= 2; from++ {
			if e := r.Fill(from, l); e != api.OK {
				t.Error(from, e)
			}
		}
		for _, from := range []int{-1, 3, math.MinInt, math.MaxInt} {
			if e := r.Fill(from, l); e != api.ErrArg {
				t.Error(from, e)
			}
		}
	}
	is(t, r, []uint64{6, 7}, 0, 0)
}

func TestFillFromLeastAndGreatest(t *testing.T) {
	r := filled(t, 1, 2, 3)
	for _, from := range []int{math.MinInt, math.MinInt + 1, math.MinInt + 2, math.MaxInt - 2, math.MaxInt - 1, math.MaxInt} {
		for n := range 5 {
			if e := r.Fill(from, make([]uint64, n)); e != api.ErrArg {
				t.Errorf("Fill(%d) of %d words: error %d", from, n, e)
			}
		}
	}
	is(t, r, []uint64{1, 2, 3}, 0, 0)
}

func TestFillKeepsNothingOfItsWords(t *testing.T) {
	whole := []uint64{4, 5, 6, 7}
	l := whole[:2]
	r := row(t, 4)
	if e := r.Fill(1, l); e != api.OK {
		t.Fatal(e)
	}
	if !slices.Equal(whole, []uint64{4, 5, 6, 7}) {
		t.Error(whole)
	}
	l[0] = 90
	is(t, r, []uint64{0, 4, 5, 0}, 0, 0)
	r.Store(2, 91)
	r.Store(3, 92)
	if !slices.Equal(whole, []uint64{90, 5, 6, 7}) {
		t.Error(whole)
	}
}

// P5.2: Counts.

func TestCountsOfTriesAlone(t *testing.T) {
	r := row(t, 2)
	is(t, r, []uint64{0, 0}, 0, 0)
	r.Store(0, 3)
	r.Add(0, 4)
	r.Fill(0, []uint64{1, 2})
	r.Words(0, 2)
	r.Load(1)
	r.CAS(2, 0, 1)
	r.CAS(-1, 0, 1)
	is(t, r, []uint64{1, 2}, 0, 0)
	for range 3 {
		try(t, r, 0, 9, 9, false)
	}
	for n := range 5 {
		try(t, r, 1, uint64(n)+2, uint64(n)+3, true)
	}
	is(t, r, []uint64{1, 7}, 5, 3)
	is(t, r, []uint64{1, 7}, 5, 3)
}

// P5.3.

func TestOfTwoTriesTheSecondLoses(t *testing.T) {
	for _, has := range edges() {
		for _, a := range edges() {
			for _, b := range edges() {
				if a == has || b == has {
					continue
				}
				r := filled(t, has, has)
				try(t, r, 1, has, a, true)
				try(t, r, 1, has, b, false)
				is(t, r, []uint64{has, a}, 1, 1)
			}
		}
	}
}

func TestExample(t *testing.T) {
	r := row(t, 2)
	try(t, r, 0, 0, 5, true)
	try(t, r, 0, 0, 6, false)
	is(t, r, []uint64{5, 0}, 1, 1)
}

// A nil row.

func TestNilRow(t *testing.T) {
	var r *cell.Row
	if r.Len() != 0 {
		t.Error("Len")
	}
	if a, b := r.Counts(); a != 0 || b != 0 {
		t.Error("Counts", a, b)
	}
	for _, i := range []int{0, 1, -1, cell.MaxCells, math.MinInt, math.MaxInt} {
		if w := r.Load(i); w != 0 {
			t.Error("Load", i, w)
		}
		if e := r.Store(i, 1); e != api.ErrNil {
			t.Error("Store", i, e)
		}
		if ok, e := r.CAS(i, 0, 1); ok || e != api.ErrNil {
			t.Error("CAS", i, ok, e)
		}
		if w, e := r.Add(i, 1); w != 0 || e != api.ErrNil {
			t.Error("Add", i, w, e)
		}
		for _, n := range []int{0, 1, -1, math.MinInt, math.MaxInt} {
			if l, e := r.Words(i, n); l != nil || e != api.ErrNil {
				t.Error("Words", i, n, l, e)
			}
		}
		for _, l := range [][]uint64{nil, {}, {1}} {
			if e := r.Fill(i, l); e != api.ErrNil {
				t.Error("Fill", i, l, e)
			}
		}
	}
}

// P5.1 to P5.3: many calls, held against a plain list.

func TestAgainstAList(t *testing.T) {
	d := rand.New(rand.NewSource(5))
	for range 60 {
		n := 1 + d.Intn(6)
		r, l := row(t, n), make([]uint64, n)
		won, lost := 0, 0
		for range 120 {
			i, w := d.Intn(n+2)-1, edges()[d.Intn(len(edges()))]
			there := i >= 0 && i < n
			switch d.Intn(4) {
			case 0:
				if (r.Store(i, w) == api.OK) != there {
					t.Fatal("Store", i)
				}
				if there {
					l[i] = w
				}
			case 1:
				old := edges()[d.Intn(len(edges()))]
				if there && d.Intn(2) == 0 {
					old = l[i]
				}
				ok, e := r.CAS(i, old, w)
				if (e == api.OK) != there || ok != (there && l[i] == old) {
					t.Fatal("CAS", i, ok, e)
				}
				if ok {
					l[i], won = w, won+1
				} else if there {
					lost++
				}
			case 2:
				had, e := r.Add(i, w)
				if (e == api.OK) != there || there && had != l[i] || !there && had != 0 {
					t.Fatal("Add", i, had, e)
				}
				if there {
					l[i] += w
				}
			case 3:
				some := make([]uint64, d.Intn(n+2))
				for at := range some {
					some[at] = d.Uint64()
				}
				fits := i >= 0 && i+len(some) <= n
				if (r.Fill(i, some) == api.OK) != fits {
					t.Fatal("Fill", i, len(some))
				}
				if fits {
					copy(l[i:], some)
				}
			}
			is(t, r, l, won, lost)
		}
	}
}

// Many at once: no addition is lost, what each is told is another word, and each try is counted.

func TestAddByManyAtOnce(t *testing.T) {
	const many, each = 8, 20000
	r := row(t, 2)
	told := make([][]uint64, many)
	var all sync.WaitGroup
	for m := range many {
		all.Go(func() {
			for range each {
				w, _ := r.Add(1, 3)
				told[m] = append(told[m], w)
			}
		})
	}
	all.Wait()
	l := slices.Concat(told...)
	slices.Sort(l)
	for i, w := range l {
		if w != uint64(i)*3 {
			t.Fatalf("the %dth that was told is %d", i, w)
		}
	}
	is(t, r, []uint64{0, many * each * 3}, 0, 0)
}

func TestTryByManyAtOnce(t *testing.T) {
	// In several rounds, since in one round each may happen to run alone.
	for range 8 {
		tryByMany(t, 4, 100000)
	}
}

func tryByMany(t *testing.T, many, each int) {
	t.Helper()
	r := row(t, 2)
	wins := make([]int, many)
	var all, ready sync.WaitGroup
	ready.Add(many)
	for m := range many {
		all.Go(func() {
			ready.Done()
			ready.Wait()
			won := 0
			for range each {
				w := r.Load(0)
				if ok, _ := r.CAS(0, w, w+1); ok {
					won++
				}
			}
			wins[m] = won
		})
	}
	all.Wait()
	won := 0
	for _, n := range wins {
		won += n
	}
	if won == 0 {
		t.Error("nobody won")
	}
	is(t, r, []uint64{uint64(won), 0}, won, many*each-won)
}
