package hlog_test

import (
	"math"
	"slices"
	"testing"

	"haycroft/api"
	"haycroft/device"
	"haycroft/frame"
	"haycroft/hlog"
)

// strangers are numbers that are far from all that may be, of pages, frames and sizes; or, in 32 bits, are not.
var strangers = []int{math.MinInt, math.MinInt + 1, math.MinInt32, -1 << 32, -64, -2, -1, 1 << 16, math.MaxInt32, 1 << 32, 1<<32 + 1, 1<<32 + 5, math.MaxInt - 1, math.MaxInt}

func TestExample(t *testing.T) {
	r := made(t, config(2, 64, 1))
	r.fill()
	r.turn(ok)
	r.fill()
	r.turn(errWait)
	if is := r.l.Marks().All(); !slices.Equal(is, []int{1, 1, 0, 0, 0}) {
		t.Fatal("page 0 isn't made read-only:", is)
	}
	r.turn(errWait)
	if !r.l.Flying(0) || r.l.Flying(1) {
		t.Fatal("page 0 isn't flying")
	}
	r.do(1)
	r.land(1)
	r.turn(errWait)
	if is := r.l.Marks().All(); !slices.Equal(is, []int{1, 1, 1, 1, 1}) {
		t.Fatal("the head doesn't go on:", is)
	}
	r.turn(ok)
	if is := r.l.Pages().In(); !slices.Equal(is, []int{1, 2}) || r.l.Tail().Page() != 2 {
		t.Fatal("the tail isn't turned:", is)
	}
}

// Somebody who is in, and doesn't refresh, holds up each of both shifts.
func TestExampleWithSomebodyIn(t *testing.T) {
	r := made(t, config(2, 4, 2))
	r.to(1)
	r.fill()
	r.enter(1)
	r.turn(errWait)
	r.turn(errWait)
	r.turn(errWait)
	if is := r.l.Marks().All(); !slices.Equal(is, []int{1, 0, 0, 0, 0}) || r.l.Flying(0) {
		t.Fatal("page 0 is safe, while somebody may write on it:", is)
	}
	r.refresh(1)
	r.settle(1)
	r.turn(errWait)
	r.do(1)
	r.land(1)
	r.turn(errWait)
	r.turn(errWait)
	if is := r.l.Marks().All(); !slices.Equal(is, []int{1, 1, 1, 1, 0}) || !r.l.Pages().Has(0) {
		t.Fatal("page 0 is gone, while somebody may read it:", is)
	}
	r.leave(1)
	r.turn(errWait)
	r.settle(1)
	r.turn(ok)
}

// P15.1

func TestNew(t *testing.T) {
	for bits := 5; bits <= 9; bits++ {
		for frames := 2; frames <= 8; frames++ {
			for _, space := range []int{1, 2, 3, 63, 64} {
				for sessions := 1; sessions <= 8; sessions++ {
					r := made(t, api.Config{Bits: bits, Frames: frames, Space: space, Sessions: sessions})
					l := r.l
					if l.Pages().Bits() != bits || l.Pages().Frames() != frames || l.Device() != r.d || l.Tail().Last() != (space == 1) {
						t.Fatalf("%+v: %d bits, %d frames, last %v", r.c, l.Pages().Bits(), l.Pages().Frames(), l.Tail().Last())
					}
					if !slices.Equal(l.Pages().In(), []int{0}) || l.Tail().Addr() != 1 || l.Epoch().Now() != 1 || !slices.Equal(l.Marks().All(), []int{0, 0, 0, 0, 0}) || len(l.Waiting()) != 0 {
						t.Fatalf("%+v: isn't new: %s", r.c, r.view())
					}
					if e := l.Epoch().Enter(sessions); e != errArg {
						t.Fatalf("%+v: there is a session %d: %d", r.c, sessions, e)
					}
					if e := l.Epoch().Enter(sessions - 1); e != ok {
						t.Fatalf("%+v: there is no session %d: %d", r.c, sessions-1, e)
					}
				}
			}
		}
	}
}

func TestNewRefuses(t *testing.T) {
	right := api.Config{Bits: 5, Frames: 2, Space: 4, Buckets: 1, Spare: 0, Sessions: 2}
	no := func(c api.Config) {
		t.Helper()
		if l, e := hlog.New(c, device.New()); l != nil || e != errArg {
			t.Errorf("New(%+v) tells %v, %d", c, l, e)
		}
		if l, e := hlog.New(c, nil); l != nil || e != errNil {
			t.Errorf("New(%+v, nil) tells %v, %d", c, l, e)
		}
	}
	yes := func(c api.Config) {
		t.Helper()
		if l, e := hlog.New(c, device.New()); l == nil || e != ok {
			t.Errorf("New(%+v) tells %v, %d", c, l, e)
		}
		if l, e := hlog.New(c, nil); l != nil || e != errNil {
			t.Errorf("New(%+v, nil) tells %v, %d", c, l, e)
		}
	}
	yes(right)
	parts := []struct {
		least, most int
		put         func(c *api.Config, n int)
	}{
		{5, 9, func(c *api.Config, n int) { c.Bits = n }},
		{2, 8, func(c *api.Config, n int) { c.Frames = n }},
		{1, 64, func(c *api.Config, n int) { c.Space = n }},
		{1, 8, func(c *api.Config, n int) { c.Sessions = n }},
	}
	for _, p := range parts {
		for _, n := range []int{p.least, p.least + 1, p.most - 1, p.most} {
			c := right
			p.put(&c, n)
			yes(c)
		}
		for _, n := range append([]int{0, p.least - 1, p.most + 1}, strangers...) {
			c := right
			p.put(&c, n)
			no(c)
		}
	}
	no(api.Config{})
}

func TestNewOfPartsThatCountForNothing(t *testing.T) {
	for _, n := range append([]int{0, 1, 3, 65, 1024, 1025}, strangers...) {
		for _, m := range append([]int{0, 1, 64, 65}, strangers...) {
			l, e := hlog.New(api.Config{Bits: 5, Frames: 2, Space: 4, Buckets: n, Spare: m, Sessions: 2}, device.New())
			if l == nil || e != ok {
				t.Fatalf("Buckets %d, Spare %d: %d", n, m, e)
			}
		}
	}
}

// A device that is off, and one that has blocks and something under way already, will do.
func TestNewOfAnyDevice(t *testing.T) {
	d := device.New()
	d.Write(api.Block{}, "a")
	d.Do(1)
	d.Write(api.Block{No: 1}, "b")
	if l, e := hlog.New(config(2, 4, 1), d); e != ok || l.Device() != d || l.Flying(0) || l.Flying(1) || l.Land() != 0 {
		t.Fatal(e)
	}
	d.Crash(nil)
	l, e := hlog.New(config(2, 4, 1), d)
	if e != ok || !l.Pages().Has(0) || d.On() {
		t.Fatal(e)
	}
	if s, there := d.Peek(api.Block{}); s != "a" || !there {
		t.Fatal("the device isn't as it was")
	}
}

// Two logs on one device are apart, but for the device.
func TestLogsAreApart(t *testing.T) {
	r := made(t, config(2, 4, 1))
	x, e := hlog.New(r.c, r.d)
	if e != ok {
		t.Fatal(e)
	}
	r.to(1)
	r.readOnly(1, ok)
	r.flush(0, 1, ok)
	if x.Flying(0) || x.Tail().Page() != 0 || x.Epoch().Now() != 1 || x.Marks().At(readOnly) != 0 || x.Region(0) != mutable {
		t.Fatal("they aren't")
	}
	r.do(1)
	if x.Land() != 0 {
		t.Fatal("what the one flushed landed in the other")
	}
	r.land(1)
}

func TestBegin(t *testing.T) {
	for bits := 5; bits <= 9; bits++ {
		for _, frames := range []int{2, 3, 7, 8} {
			for _, space := range []int{1, 2, 9, 64} {
				for page := range space {
					r := made(t, api.Config{Bits: bits, Frames: frames, Space: space, Sessions: 1})
					r.begin(page, ok)
					l := r.l
					a := max(1, uint64(page*r.m.size))
					if !slices.Equal(l.Pages().In(), []int{page}) || l.Tail().Addr() != a || !slices.Equal(l.Marks().All(), []int{page, page, page, page, page}) {
						t.Fatalf("%+v: Begin(%d): %s", r.c, page, r.view())
					}
					r.take(3, a, 1, ok)
				}
			}
		}
	}
}

func TestBeginRefuses(t *testing.T) {
	for _, space := range []int{1, 2, 4, 64} {
		r := made(t, config(2, space, 1))
		for _, page := range append([]int{space, space + 1, 2 * space, 64, 65}, strangers...) {
			r.begin(page, errArg)
		}
		r.begin(space-1, ok)
	}
}

// A log that begins goes on as one that came there would.
func TestGoesOnFromWhereItBegan(t *testing.T) {
	for frames := 2; frames <= 8; frames++ {
		r := made(t, config(frames, 64, 1))
		r.begin(40, ok)
		r.help(false)
		r.to(41)
		r.help(frames == 2) // with more of them page 40 may stay
		r.to(40 + frames - 1)
		if is := r.l.Pages().In(); len(is) != frames || is[0] != 40 {
			t.Fatal(is)
		}
	}
	r := made(t, config(2, 64, 1))
	r.begin(40, ok)
	r.flush(39, 0, errThere)
	r.flush(40, 0, errOver)
	r.to(41)
	r.readOnly(40, errThere)
	r.head(40, errThere)
	r.readOnly(41, ok)
	r.flush(40, 1, ok)
	r.do(1)
	r.land(1)
	r.head(41, ok)
	r.to(42)
	if is := r.l.Pages().In(); !slices.Equal(is, []int{41, 42}) {
		t.Fatal(is)
	}
}

// Whatever makes it no longer a new one: Begin tells that, of whatever page.
func TestBeginOfOneThatIsNotNew(t *testing.T) {
	ways := map[string]func(r *run){
		"take":      func(r *run) { r.take(1, 1, 1, ok) },
		"take all":  func(r *run) { r.take(31, 1, 1, ok) },
		"take more": func(r *run) { r.take(32, 0, 2, ok) },
		"turn":      func(r *run) { r.to(1) },
		"close":     func(r *run) { r.close(ok) },
		"begin":     func(r *run) { r.begin(1, ok) },
		"begin far": func(r *run) { r.begin(3, ok) },
		"enter":     func(r *run) { r.enter(0) },
		"enter 2":   func(r *run) { r.enter(1) },
		"both in":   func(r *run) { r.enter(1); r.enter(0); r.leave(1) },
		"bump":      func(r *run) { r.bump() },
		"mark": func(r *run) {
			if e := r.l.Marks().Raise(readOnly, 1, 1); e != ok {
				r.t.Fatal(e)
			}
			r.m.marks[readOnly] = 1
		},
		"all marks": func(r *run) {
			if e := r.l.Marks().Begin(1); e != ok {
				r.t.Fatal(e)
			}
			r.m.marks = [5]int{1, 1, 1, 1, 1}
		},
		"read-only": func(r *run) { r.to(1); r.readOnly(1, ok) },
		"tail":      func(r *run) { r.byHand(1) },
		"shift": func(r *run) {
			r.byHand(1)
			r.readOnly(1, ok)
			r.byHand(0)
		},
	}
	for name, f := range ways {
		t.Run(name, func(t *testing.T) {
			r := made(t, config(2, 4, 2))
			f(r)
			for _, page := range append([]int{0, 1, 2, 3, 4, 64}, strangers...) {
				r.begin(page, errThere)
			}
		})
	}
}

// What doesn't make it another one than New made: all else.
func TestBeginOfOneThatIsStillNew(t *testing.T) {
	ways := map[string]func(r *run){
		"nothing":      func(r *run) {},
		"word":         func(r *run) { r.store(1, 77) },
		"last word":    func(r *run) { r.store(31, math.MaxUint64); r.store(0, 1) },
		"enter, leave": func(r *run) { r.enter(1); r.leave(1) },
		"refused":      func(r *run) { r.begin(4, errArg); r.begin(-1, errArg) },
		"begin of 0":   func(r *run) { r.begin(0, ok) },
		"takes":        func(r *run) { r.take(0, 0, 0, errArg); r.take(33, 0, 0, errLong); r.turn(errNone) },
		"helps":        func(r *run) { r.help(false); r.settle(0); r.land(0) },
		"shifts":       func(r *run) { r.readOnly(1, errOver); r.readOnly(0, errThere); r.head(1, errOver); r.head(0, errThere) },
		"flush":        func(r *run) { r.flush(0, 0, errOver) },
		"device":       func(r *run) { r.write(api.Block{}, "x"); r.do(1); r.crash() },
	}
	for name, f := range ways {
		for page := range 4 {
			r := made(t, config(2, 4, 2))
			f(r)
			r.begin(page, ok)
			if is := r.l.Pages().In(); !slices.Equal(is, []int{page}) || r.l.Tail().Page() != page {
				t.Fatalf("%s: Begin(%d): %v", name, page, is)
			}
		}
	}
}

// What was stored stays where the log begins at page 0, and goes with page 0 elsewhere.
func TestBeginWithAWordStored(t *testing.T) {
	r := made(t, config(2, 4, 1))
	r.store(5, 77)
	r.begin(0, ok)
	if w, e := r.l.Pages().Load(5); w != 77 || e != ok {
		t.Fatal(w, e)
	}
	r.begin(2, ok)
	if w, e := r.l.Pages().Load(5); w != 0 || e != errNone {
		t.Fatal(w, e)
	}
	if w, e := r.l.Pages().Load(69); w != 0 || e != ok {
		t.Fatal(w, e)
	}
}

// Pages that somebody opened, or closed, by hand are no hindrance.
func TestBeginWithPagesByHand(t *testing.T) {
	for page := range 8 {
		for other := range 8 {
			r := made(t, config(3, 8, 1))
			r.l.Pages().Close(0)
			r.l.Pages().Open(other)
			if e := r.l.Begin(page); e != ok || !r.l.Pages().Has(page) || page != 0 && r.l.Pages().Has(0) {
				t.Fatalf("%d is in: Begin(%d) tells %d; in are %v", other, page, e, r.l.Pages().In())
			}
			if other != 0 && other%3 != page%3 && !r.l.Pages().Has(other) {
				t.Fatalf("%d isn't in any more behind Begin(%d)", other, page)
			}
		}
	}
}

func TestRegion(t *testing.T) {
	for bits := 5; bits <= 9; bits++ {
		r := made(t, api.Config{Bits: bits, Frames: 8, Space: 64, Sessions: 1})
		r.to(7)
		r.readOnly(4, ok)
		r.landed(2)
		r.head(1, ok)
		r.enter(0)
		r.head(2, ok)
		r.readOnly(6, ok)
		want := map[int]int{-1: noRegion, 0: disk, 1: disk, 2: still, 3: still, 4: fuzzy, 5: fuzzy, 6: mutable, 7: mutable, 8: noRegion, 63: noRegion, 64: noRegion, 1<<48>>bits - 1: noRegion}
		size := uint64(r.m.size)
		for page, region := range want {
			if page < 0 {
				continue
			}
			first := uint64(page) * size
			for _, a := range []uint64{first, first + 1, first + size/2, first + size - 1} {
				if is := r.l.Region(a); is != region || r.m.region(a) != region {
					t.Fatalf("%d bits: the region of %d is %d, not %d", bits, a, is, region)
				}
			}
		}
		for _, a := range []uint64{1<<48 - 1, 1 << 48, 1<<48 + 1, 1<<48 + 7*size, 1 << 63, 1<<63 + 1, math.MaxUint64 - 1, math.MaxUint64} {
			if is := r.l.Region(a); is != noRegion {
				t.Fatalf("%d bits: the region of %d is %d", bits, a, is)
			}
		}
	}
}

func TestRegionOfANewLog(t *testing.T) {
	r := made(t, config(2, 4, 1))
	for a, want := range map[uint64]int{0: mutable, 1: mutable, 31: mutable, 32: noRegion, 63: noRegion, 1<<48 - 1: noRegion, 1 << 48: noRegion, math.MaxUint64: noRegion} {
		if is := r.l.Region(a); is != want {
			t.Fatalf("the region of %d is %d", a, is)
		}
	}
	r.begin(2, ok)
	for a, want := range map[uint64]int{0: disk, 31: disk, 32: disk, 63: disk, 64: mutable, 95: mutable, 96: noRegion, 1<<48 - 1: noRegion, 1 << 48: noRegion, math.MaxUint64: noRegion} {
		if is := r.l.Region(a); is != want {
			t.Fatalf("behind Begin the region of %d is %d", a, is)
		}
	}
}

// Pages that aren't in have a region, too: it is by the marks alone.
func TestRegionIsByTheMarks(t *testing.T) {
	r := made(t, config(2, 4, 1))
	r.to(1)
	r.l.Pages().Close(0)
	if is := r.l.Region(5); is != mutable {
		t.Fatal(is)
	}
}

func TestTake(t *testing.T) {
	r := made(t, config(2, 2, 1))
	for _, n := range append([]int{0}, strangers...) {
		e := errLong
		if n < 1 {
			e = errArg
		}
		r.take(n, 0, 0, e)
	}
	r.take(33, 0, 0, errLong)
	r.take(30, 1, 1, ok)
	r.take(2, 0, 2, ok)
	r.take(1, 0, 3, ok)
	r.take(33, 0, 0, errLong)
	r.turn(ok)
	r.take(32, 32, 1, ok)
	r.take(1, 0, 4, ok)
	r.take(1, 0, 4, ok)
}

// P15.2

func TestTurnOfATailThatIsNotOver(t *testing.T) {
	r := made(t, config(2, 4, 1))
	r.turn(errNone)
	r.take(31, 1, 1, ok)
	r.turn(errNone)
	r.take(1, 0, 2, ok)
	r.turn(ok)
	r.turn(errNone)
	r.take(32, 32, 1, ok)
	r.turn(errNone)
	r.byHand(3)
	r.turn(errNone)
}

func TestTurnOfTheLastPage(t *testing.T) {
	r := made(t, config(2, 1, 1))
	r.turn(errNone)
	r.fill()
	r.turn(errFull)

	r = made(t, config(8, 3, 1))
	r.to(2)
	r.turn(errNone)
	r.fill()
	r.turn(errFull)
	r.close(errFull)

	// Where a page must be gone first, too: then nothing is done for it.
	r = made(t, config(2, 4, 1))
	r.byHand(3)
	r.fill()
	r.turn(errFull)
	r.close(errFull)
	if r.l.Marks().At(readOnly) != 0 {
		t.Fatal("it helps")
	}
}

// While there are frames that had no page, none must be gone.
func TestTurnOfFewPages(t *testing.T) {
	for frames := 2; frames <= 8; frames++ {
		r := made(t, config(frames, 64, 1))
		for page := 1; page < frames; page++ {
			r.fill()
			r.turn(ok)
			if is := r.l.Pages().In(); len(is) != page+1 || is[0] != 0 {
				t.Fatal(is)
			}
		}
		r.fill()
		for _, marks := range [][]int{{1, 1, 0, 0, 0}, {1, 1, 0, 0, 0}} {
			r.turn(errWait)
			if is := r.l.Marks().All(); !slices.Equal(is, marks) {
				t.Fatal(frames, is)
			}
		}
		if !slices.Equal(r.d.Flight(), []int{1}) {
			t.Fatal(frames, "page 0 isn't flushed")
		}
		r.do(1)
		r.turn(errWait)
		r.land(1)
		r.turn(errWait)
		r.turn(ok)
		if is := r.l.Pages().In(); len(is) != frames || is[0] != 1 {
			t.Fatal(is)
		}
	}
}

// A page of noughts is opened; what had its frame is gone.
func TestTurnOpensAPageOfNoughts(t *testing.T) {
	r := made(t, config(2, 4, 1))
	for a := range uint64(32) {
		r.store(a, a+1)
	}
	r.to(1)
	r.store(40, 9)
	r.fill()
	r.readOnly(1, ok)
	r.landed(1)
	r.head(1, ok)
	r.turn(ok)
	words, e := r.l.Pages().Page(2)
	if e != ok || !slices.Equal(words, make([]uint64, 32)) {
		t.Fatal(words, e)
	}
	if w, _ := r.l.Pages().Load(40); w != 9 {
		t.Fatal("page 1 isn't as it was")
	}
}

// MarkGone is what counts: below the need, at it, and above.
func TestTurnByMarkGone(t *testing.T) {
	for _, step := range []string{"turn", "close"} {
		goOn := func(r *run, e api.Errno) {
			t.Helper()
			if step == "turn" {
				r.turn(e)
			} else {
				r.close(e)
			}
		}
		r := made(t, config(4, 64, 1))
		r.to(3)
		r.fill()
		r.readOnly(3, ok)
		r.landed(3)
		r.enter(0)
		r.head(1, ok)
		goOn(r, errWait)
		r.refresh(0)
		goOn(r, errWait)
		r.settle(1)
		goOn(r, ok)
		r.fill()
		r.leave(0)
		r.head(3, ok)
		goOn(r, ok)
		r.fill()
		goOn(r, ok)
		if is := r.l.Pages().In(); !slices.Equal(is, []int{3, 4, 5, 6}) {
			t.Fatal(step, is)
		}
		r.fill()
		goOn(r, errWait)
	}
}

// The page that must be gone may not be in, the next one may be.
func TestTurnWithPagesByHand(t *testing.T) {
	r := made(t, config(2, 64, 1))
	r.to(1)
	r.fill()
	r.readOnly(1, ok)
	r.landed(1)
	r.head(1, ok)
	r.l.Pages().Close(0)
	delete(r.m.in, 0)
	r.turn(ok)

	r = made(t, config(2, 64, 1))
	r.l.Pages().Open(1)
	r.l.Pages().Store(33, 5)
	r.l.Take(32)
	if e := r.l.Turn(); e != ok || r.l.Tail().Page() != 1 || !slices.Equal(r.l.Pages().In(), []int{0, 1}) {
		t.Fatal(e)
	}

	// Another page in the next one's frame: the tail stays.
	for _, goOn := range []func(l *hlog.Log) api.Errno{(*hlog.Log).Turn, (*hlog.Log).Close} {
		r = made(t, config(2, 64, 1))
		r.l.Pages().Open(5)
		r.l.Take(32)
		if e := goOn(r.l); e != errBusy || r.l.Tail().Page() != 0 || !slices.Equal(r.l.Pages().In(), []int{0, 5}) {
			t.Fatal(e, r.l.Tail().Page(), r.l.Pages().In())
		}
		r.l.Pages().Close(5)
		if e := goOn(r.l); e != ok || r.l.Tail().Page() != 1 {
			t.Fatal(e)
		}
	}
}

func TestClose(t *testing.T) {
	for _, n := range []int{0, 1, 2, 30, 31, 32} {
		r := made(t, config(2, 4, 1))
		if n == 32 {
			r.take(n, 0, 2, ok)
		} else if n > 0 {
			r.take(n, 1, 1, ok)
		}
		r.close(ok)
		if r.l.Tail().Addr() != 32 || !slices.Equal(r.l.Pages().In(), []int{0, 1}) {
			t.Fatal(r.view())
		}
		r.close(ok)
		if r.l.Tail().Addr() != 32 {
			t.Fatal("it is closed at offset 0")
		}
	}
}

func TestCloseOfTheLastPage(t *testing.T) {
	r := made(t, config(2, 1, 1))
	r.close(errFull)
	r.fill()
	r.close(errFull)

	r = made(t, config(2, 2, 1))
	r.close(ok)
	r.close(ok)
	r.take(1, 32, 1, ok)
	r.close(errFull)
	r.fill()
	r.close(errFull)
	if r.l.Marks().At(readOnly) != 0 {
		t.Fatal("it helps")
	}
}

func TestCloseWhereAPageMustBeGone(t *testing.T) {
	r := made(t, config(2, 4, 1))
	r.to(1)
	r.close(ok)
	if r.l.Marks().At(readOnly) != 0 {
		t.Fatal("it helps at offset 0")
	}
	r.take(1, 32, 1, ok)
	r.close(errWait)
	r.close(errWait)
	r.close(errWait)
	r.do(1)
	r.close(errWait)
	r.land(1)
	r.close(errWait)
	r.close(ok)
	if r.l.Tail().Addr() != 64 || !slices.Equal(r.l.Pages().In(), []int{1, 2}) {
		t.Fatal(r.view())
	}
	r.close(ok)
	r.turn(errNone)
}

// P15.3

func TestHelp(t *testing.T) {
	r := made(t, config(3, 64, 1))
	r.help(false)
	r.to(1)
	r.help(false)
	r.fill()
	r.help(false)
	r.turn(ok)
	r.help(true) // page 0 is made read-only: the tail needn't be over
	if is := r.l.Marks().All(); !slices.Equal(is, []int{1, 1, 0, 0, 0}) {
		t.Fatal(is)
	}
	r.help(true) // it is flushed
	if !slices.Equal(r.d.Flight(), []int{1}) || !r.l.Flying(0) {
		t.Fatal(r.d.Flight())
	}
	r.help(false)
	r.do(1)
	r.help(false) // nobody has landed it
	r.land(1)
	r.enter(0)
	r.help(true) // the head goes on
	if is := r.l.Marks().All(); !slices.Equal(is, []int{1, 1, 1, 1, 0}) {
		t.Fatal(is)
	}
	r.help(false) // MarkHead isn't below the need, though MarkGone is
	r.leave(0)
	r.help(false)
	r.settle(1)
	r.help(false)
}

func TestHelpWhileSomebodyMayWrite(t *testing.T) {
	r := made(t, config(2, 64, 1))
	r.to(1)
	r.enter(0)
	r.help(true)
	r.help(false) // MarkReadOnly isn't below the need, MarkSafe is
	r.refresh(0)
	r.help(false)
	r.settle(1)
	r.help(true)
	if !r.l.Flying(0) {
		t.Fatal("page 0 isn't flushed")
	}
}

func TestHelpWhereThereIsNoFurtherPage(t *testing.T) {
	r := made(t, config(2, 2, 1))
	r.help(false)
	r.to(1)
	r.help(false)
	r.fill()
	r.help(false)
	r.readOnly(1, ok)
	r.help(false)
	r.landed(1)
	r.help(false)
	if is := r.l.Marks().All(); !slices.Equal(is, []int{1, 1, 1, 0, 0}) {
		t.Fatal(is)
	}
}

// Of many pages that must be flushed: the first that hasn't landed, and isn't flying.
func TestHelpFlushesTheFirst(t *testing.T) {
	r := made(t, config(8, 64, 1))
	r.to(7)
	r.readOnly(6, ok)
	r.byHand(12) // the need is 6
	r.flush(1, 1, ok)
	r.flush(3, 2, ok)
	r.do(2)
	r.land(1)
	for i, page := range []int{0, 2, 4, 5} {
		if r.l.Flying(page) {
			t.Fatal(page, "is flying already")
		}
		r.help(true)
		if !r.l.Flying(page) || !slices.Contains(r.d.Flight(), i+3) {
			t.Fatal(page, "isn't flushed")
		}
	}
	r.help(false)
	r.do(3)
	r.land(1)
	r.help(false)
	for _, n := range []int{1, 4, 5, 6} {
		r.do(n)
	}
	r.land(4)
	if is := r.l.Marks().All(); !slices.Equal(is, []int{6, 6, 6, 0, 0}) {
		t.Fatal(is)
	}
	r.help(true)
	if is := r.l.Marks().All(); !slices.Equal(is, []int{6, 6, 6, 6, 6}) {
		t.Fatal(is)
	}
	r.help(false)
}

// Pages below MarkFlushed, on whichever side of MarkHead, are none of them.
func TestHelpFlushesFromMarkFlushedOn(t *testing.T) {
	r := made(t, config(8, 64, 1))
	r.to(7)
	r.readOnly(6, ok)
	r.landed(3)
	r.enter(0)
	r.head(1, ok)
	r.byHand(12)
	r.help(true)
	if is := r.l.Marks().All(); !slices.Equal(is, []int{6, 6, 3, 1, 0}) || !r.l.Flying(3) {
		t.Fatal(is)
	}
}

// Where not all pages below the need are safe, none is flushed, though some are.
func TestHelpWaitsTillAllAreSafe(t *testing.T) {
	r := made(t, config(8, 64, 1))
	r.to(7)
	r.readOnly(2, ok)
	r.enter(0)
	r.readOnly(6, ok)
	r.byHand(12)
	r.help(false)
	if len(r.d.Flight()) != 0 {
		t.Fatal("a page is flushed")
	}
	r.leave(0)
	r.settle(1)
	r.help(true)

	// And where MarkReadOnly is below it, that comes first.
	r = made(t, config(8, 64, 1))
	r.to(7)
	r.readOnly(5, ok)
	r.byHand(12)
	r.help(true)
	if is := r.l.Marks().All(); !slices.Equal(is, []int{6, 6, 0, 0, 0}) || len(r.d.Flight()) != 0 {
		t.Fatal(is)
	}
}

// No page is flushed that may stay: the need is the bound, though more is safe.
func TestHelpStopsAtTheNeed(t *testing.T) {
	r := made(t, config(4, 64, 1))
	r.to(3)
	r.readOnly(3, ok)
	r.help(true)
	r.help(false)
	if r.l.Flying(1) {
		t.Fatal("page 1 is flushed")
	}
	r.flush(2, 2, ok)
	r.help(false)
	r.do(1)
	r.land(1)
	r.help(true)
	if is := r.l.Marks().All(); !slices.Equal(is, []int{3, 3, 1, 1, 1}) {
		t.Fatal(is)
	}
}

// All is shifted to the need, and no further.
func TestHelpShiftsToTheNeed(t *testing.T) {
	r := made(t, config(3, 64, 1))
	r.byHand(20)
	r.help(true)
	if is := r.l.Marks().All(); !slices.Equal(is, []int{19, 19, 0, 0, 0}) {
		t.Fatal(is)
	}
	r = made(t, config(8, 64, 1))
	r.to(7)
	r.readOnly(7, ok)
	r.landed(7)
	r.byHand(9)
	r.help(true)
	if is := r.l.Marks().All(); !slices.Equal(is, []int{7, 7, 7, 3, 3}) {
		t.Fatal(is)
	}
	// Where MarkReadOnly is above the need already, it isn't shifted.
	r = made(t, config(3, 64, 1))
	r.to(2)
	r.enter(0)
	r.readOnly(2, ok)
	r.help(false)
}

func TestHelpThatFails(t *testing.T) {
	// The flush: no power, another write of the block, too much under way.
	r := made(t, config(2, 64, 1))
	r.to(1)
	r.readOnly(1, ok)
	r.crash()
	r.help(false)
	r.start()
	r.write(api.Block{}, "other")
	r.help(false)
	r.do(1)
	for range mostFly {
		r.read(api.Block{Area: 2, No: 5})
	}
	r.help(false)
	r.do(2)
	r.help(true)

	// A write that fails is not made good by that of a further page.
	r = made(t, config(8, 64, 1))
	r.to(7)
	r.readOnly(6, ok)
	r.byHand(12)
	r.write(api.Block{No: 0}, "other")
	r.help(false)
	if !slices.Equal(r.d.Flight(), []int{1}) {
		t.Fatal(r.d.Flight())
	}

	// The shifts: the list of actions is full.
	r = full(t)
	r.help(false)
	if r.l.Marks().At(readOnly) != mostActions {
		t.Fatal(r.l.Marks().All())
	}
	r = fullOfHeads(t)
	r.help(false)
	if r.l.Marks().At(head) != 8 {
		t.Fatal(r.l.Marks().All())
	}
}

// fullOfHeads has the list of actions full, half of each kind; the next that helps would be to shift the head.
func fullOfHeads(t *testing.T) *run {
	t.Helper()
	r := made(t, config(2, 64, 2))
	r.byHand(40)
	for mark, to := range []int{20, 20, 39} {
		if mark == flushed {
			to = 20
		}
		r.l.Marks().Raise(mark, to, 40)
		r.m.marks[mark] = to
	}
	r.byHand(18)
	r.enter(0)
	for page := 1; page <= 8; page++ {
		r.head(page, ok)
	}
	r.byHand(40)
	for page := 21; page <= 28; page++ {
		r.readOnly(page, ok)
	}
	r.byHand(18)
	return r
}

// P15.4

func TestShiftReadOnly(t *testing.T) {
	for mark := range 4 {
		for _, page := range append([]int{mark - 1, mark, mark + 1, 3, 4, 5, 63, 64}, strangers...) {
			r := made(t, config(8, 64, 1))
			r.to(4)
			if mark > 0 {
				r.readOnly(mark, ok)
			}
			now := r.l.Epoch().Now()
			want := errOver
			if page <= mark {
				want = errThere
			} else if page <= 4 {
				want = ok
			}
			r.readOnly(page, want)
			if want != ok {
				continue
			}
			if is := r.l.Marks().All(); !slices.Equal(is, []int{page, page, 0, 0, 0}) || r.l.Epoch().Now() != now+1 {
				t.Fatal(page, is, r.l.Epoch().Now())
			}
		}
	}
}

func TestShiftHead(t *testing.T) {
	for mark := range 3 {
		for _, page := range append([]int{mark - 1, mark, mark + 1, 3, 4, 5, 63, 64}, strangers...) {
			r := made(t, config(8, 64, 1))
			r.to(6)
			r.readOnly(5, ok)
			r.landed(3)
			if mark > 0 {
				r.head(mark, ok)
			}
			now := r.l.Epoch().Now()
			want := errOver
			if page <= mark {
				want = errThere
			} else if page <= 3 {
				want = ok
			}
			r.head(page, want)
			if want != ok {
				continue
			}
			if is := r.l.Marks().All(); !slices.Equal(is, []int{5, 5, 3, page, page}) || r.l.Epoch().Now() != now+1 {
				t.Fatal(page, is, r.l.Epoch().Now())
			}
			if !slices.Equal(r.l.Pages().In(), []int{0, 1, 2, 3, 4, 5, 6}) {
				t.Fatal("a page went at once")
			}
		}
	}
}

// A page of the tail's may be made read-only up to it, whatever is on the device; the head goes as far as pages are there.
func TestShiftsAtTheirBounds(t *testing.T) {
	r := made(t, config(4, 64, 1))
	r.readOnly(1, errOver)
	r.to(1)
	r.readOnly(2, errOver)
	r.readOnly(1, ok)
	r.readOnly(1, errThere)
	r.head(1, errOver)
	r.flush(0, 1, ok)
	r.head(1, errOver)
	r.do(1)
	r.head(1, errOver)
	r.land(1)
	r.head(2, errOver)
	r.head(1, ok)
	r.head(1, errThere)
	r.head(0, errThere)
}

func TestShiftsWithTheListFull(t *testing.T) {
	for _, r := range []*run{full(t), fullOfHeads(t)} {
		for _, page := range append([]int{0, 1, 8, 9, 16, 17, 20, 21, 28, 29, 63, 64}, strangers...) {
			r.readOnly(page, errFull)
			r.head(page, errFull)
		}
	}
	// What is ready, but not settled, fills it, too.
	r := full(t)
	r.leave(1)
	r.readOnly(17, errFull)
	r.settle(16)
	r.readOnly(17, ok)
	if len(r.l.Waiting()) != 0 {
		t.Fatal(r.l.Waiting())
	}
	// One less than full: there is room for one more.
	r = made(t, config(2, 64, 2))
	r.enter(1)
	r.byHand(63)
	for page := 1; page < mostActions; page++ {
		r.readOnly(page, ok)
	}
	r.readOnly(63, ok)
	r.readOnly(62, errFull)
}

// The action is of the epoch that was, not of the one that is.
func TestShiftsWaitForTheirEpoch(t *testing.T) {
	r := made(t, config(8, 64, 2))
	r.to(5)
	r.enter(0)
	r.readOnly(1, ok)
	r.readOnly(2, ok)
	if is := r.l.Waiting(); !slices.Equal(is, []api.Action{{Epoch: 1, Kind: 1, Page: 1}, {Epoch: 2, Kind: 1, Page: 2}}) {
		t.Fatal(is)
	}
	r.enter(1) // it saw 3: it doesn't hold up what was put ahead of it
	r.refresh(0)
	if r.l.Marks().At(safe) != 0 {
		t.Fatal("nobody has settled")
	}
	r.settle(2)
	r.readOnly(3, ok)
	r.refresh(0)
	r.settle(0)
	r.leave(0)
	r.settle(0)
	r.refresh(1)
	r.settle(1)
	r.readOnly(4, ok)
	r.leave(1)
	r.settle(1)
	r.readOnly(5, ok)
	if is := r.l.Marks().All(); !slices.Equal(is, []int{5, 5, 0, 0, 0}) || len(r.l.Waiting()) != 0 {
		t.Fatal(is)
	}
}

func TestSettleSome(t *testing.T) {
	r := made(t, config(8, 64, 2))
	r.to(6)
	r.readOnly(3, ok)
	r.landed(3)
	r.settle(0)
	r.enter(0) // of the epoch 2
	r.head(1, ok)
	r.readOnly(4, ok)
	r.enter(1) // of 4
	r.head(2, ok)
	r.readOnly(5, ok)
	r.settle(0)
	want := []api.Action{{Epoch: 2, Kind: 2, Page: 1}, {Epoch: 3, Kind: 1, Page: 4}, {Epoch: 4, Kind: 2, Page: 2}, {Epoch: 5, Kind: 1, Page: 5}}
	if is := r.l.Waiting(); !slices.Equal(is, want) {
		t.Fatal(is)
	}
	if is := r.l.Marks().All(); !slices.Equal(is, []int{5, 3, 3, 2, 0}) {
		t.Fatal(is)
	}
	r.refresh(0)
	r.settle(2)
	if is := r.l.Waiting(); !slices.Equal(is, want[2:]) {
		t.Fatal(is)
	}
	if is := r.l.Marks().All(); !slices.Equal(is, []int{5, 4, 3, 2, 1}) {
		t.Fatal(is)
	}
	r.settle(0)
	r.leave(1)
	r.settle(2)
	if is := r.l.Marks().All(); !slices.Equal(is, []int{5, 5, 3, 2, 2}) || len(r.l.Waiting()) != 0 {
		t.Fatal(is)
	}
	r.settle(0)
}

// An action whose mark was raised by hand already is done all the same.
func TestSettleOfWhatIsDone(t *testing.T) {
	r := made(t, config(8, 64, 1))
	r.to(3)
	r.enter(0)
	r.readOnly(2, ok)
	r.readOnly(3, ok)
	r.l.Marks().Raise(safe, 3, 3)
	r.m.marks[safe] = 3
	r.leave(0)
	r.settle(2)
	if is := r.l.Marks().At(safe); is != 3 {
		t.Fatal(is)
	}
}

// A shift settles what was due ahead of it, too.
func TestShiftSettles(t *testing.T) {
	r := made(t, config(8, 64, 1))
	r.to(3)
	r.enter(0)
	r.readOnly(1, ok)
	r.leave(0)
	r.readOnly(1, errThere)
	r.readOnly(4, errOver)
	if r.l.Marks().At(safe) != 0 {
		t.Fatal("one that fails settles")
	}
	r.enter(0)
	r.readOnly(2, ok)
	if is := r.l.Marks().All(); !slices.Equal(is, []int{2, 1, 0, 0, 0}) {
		t.Fatal(is)
	}
}

func TestWaitingIsACopy(t *testing.T) {
	r := made(t, config(8, 64, 1))
	if len(r.l.Waiting()) != 0 {
		t.Fatal(r.l.Waiting())
	}
	r.to(3)
	r.enter(0)
	r.readOnly(1, ok)
	r.readOnly(2, ok)
	was := r.l.Waiting()
	told := slices.Clone(was)
	was[0] = api.Action{Epoch: 99, Kind: 2, Page: 3}
	was = append(was[:1], api.Action{Epoch: 98})
	r.stands()
	if is := r.l.Waiting(); !slices.Equal(is, told) {
		t.Fatal(is)
	}
	held := r.l.Waiting()
	r.leave(0)
	r.settle(2)
	if !slices.Equal(held, told) {
		t.Fatal("what was told turned:", held)
	}
}

// P15.5

// flushes is a log with pages of all kinds: 0 is below MarkFlushed, 1 is under way, 2 has landed, 3 and 4 are safe, 5 is fuzzy, 6 and 7 are mutable.
func flushes(t *testing.T) *run {
	t.Helper()
	r := made(t, config(8, 64, 1))
	r.to(7)
	r.readOnly(5, ok)
	r.enter(0)
	r.readOnly(6, ok)
	r.flush(1, 1, ok)
	r.flush(0, 2, ok)
	r.flush(2, 3, ok)
	r.do(3)
	r.do(2)
	r.land(2)
	if is := r.l.Marks().All(); !slices.Equal(is, []int{6, 5, 1, 0, 0}) {
		t.Fatal(is)
	}
	return r
}

func TestFlush(t *testing.T) {
	all := func(r *run, e api.Errno, pages ...int) {
		t.Helper()
		for _, page := range pages {
			r.flush(page, 0, e)
		}
	}
	r := flushes(t)
	for page, flies := range map[int]bool{-1: false, 0: false, 1: true, 2: false, 3: false, 4: false, 5: false, 6: false, 7: false, 8: false, 64: false} {
		if r.l.Flying(page) != flies {
			t.Fatal(page)
		}
	}
	all(r, errArg, -1, -2, math.MinInt, math.MinInt32, -1<<32)
	all(r, errThere, 0, 1, 2)
	all(r, errOver, 5, 6, 7, 8, 63, 64, math.MaxInt32, 1<<32, 1<<32+1, 1<<32+3, math.MaxInt)
	r.flush(4, 4, ok)
	all(r, errThere, 4)
	r.flush(3, 5, ok)

	// Without power: all other errors come first.
	r = flushes(t)
	r.crash()
	all(r, errArg, -1, math.MinInt)
	all(r, errThere, 0, 2)
	all(r, errOver, 5, 6, 64, math.MaxInt)
	all(r, errDown, 3, 4)
	r.start()
	r.flush(3, 4, ok)
	r.flush(4, 5, ok)

	// Somebody else writes the block, or very much is under way.
	r = flushes(t)
	for page := range 8 {
		if page != 1 {
			r.write(api.Block{No: page}, "other")
		}
	}
	all(r, errArg, -1)
	all(r, errThere, 0, 1, 2)
	all(r, errOver, 5, 6)
	all(r, errBusy, 3, 4)
	r = flushes(t)
	r.write(api.Block{Area: 1, No: 3}, "other")
	r.read(api.Block{No: 3})
	r.flush(3, 6, ok)
	for len(r.m.flight()) < mostFly {
		r.read(api.Block{No: 4})
	}
	all(r, errArg, -1)
	all(r, errThere, 0, 1, 2, 3)
	all(r, errOver, 5, 6)
	all(r, errFull, 4)
}

// What the device has is the page's frame, as the page was when it was flushed.
func TestFlushWritesTheFrame(t *testing.T) {
	for bits := 5; bits <= 9; bits++ {
		r := made(t, api.Config{Bits: bits, Frames: 3, Space: 64, Sessions: 1})
		size := uint64(r.m.size)
		for a := range 2 * size {
			if a == size {
				r.to(1)
			}
			if e := r.l.Pages().Store(a, a*a+7); e != ok {
				t.Fatal(e)
			}
			r.m.in[int(a/size)][a%size] = a*a + 7
		}
		r.to(2)
		r.readOnly(2, ok)
		r.flush(1, 1, ok)
		r.flush(0, 2, ok)
		if len(r.d.Blocks()) != 0 {
			t.Fatal("it is there ahead of Do")
		}
		r.do(1)
		r.do(2)
		for page := range 2 {
			s, there := r.d.Peek(api.Block{Area: 0, No: page})
			n, words, e := frame.Unpack(s)
			if !there || n != page || e != ok || len(words) != int(size) {
				t.Fatal(page, there, n, e, len(words))
			}
			for i, w := range words {
				a := uint64(page)*size + uint64(i)
				if w != a*a+7 {
					t.Fatal(page, i, w)
				}
			}
		}
		if len(r.d.Blocks()) != 2 {
			t.Fatal(r.d.Blocks())
		}
	}
}

// The last page that a device has a block of.
func TestFlushOfThePageAheadOfTheLast(t *testing.T) {
	r := made(t, config(2, 64, 1))
	r.begin(62, ok)
	r.to(63)
	r.readOnly(63, ok)
	r.flush(63, 0, errOver)
	r.flush(62, 1, ok)
	r.do(1)
	r.land(1)
	r.head(63, ok)
	if is := r.l.Marks().All(); !slices.Equal(is, []int{63, 63, 63, 63, 63}) {
		t.Fatal(is)
	}
}

// A page that somebody closed by hand can't be flushed: nothing is written.
func TestFlushOfAPageThatIsNotIn(t *testing.T) {
	r := made(t, config(3, 64, 1))
	r.to(2)
	r.readOnly(2, ok)
	r.l.Pages().Close(0)
	if n, e := r.l.Flush(0); n != 0 || e != errNone || r.l.Flying(0) || len(r.d.Flight()) != 0 {
		t.Fatal(n, e)
	}
	if r.l.Marks().Raise(readOnly, 1<<40, 1<<40) != ok || r.l.Marks().Raise(safe, 1<<40, 0) != ok {
		t.Fatal("the marks can't be raised")
	}
	for _, page := range []int{3, 63, 64, 65, 1<<40 - 1} {
		if n, e := r.l.Flush(page); n != 0 || e == ok || len(r.d.Flight()) != 0 {
			t.Fatal(page, n, e)
		}
	}
	r.l.Pages().Close(1)
	r.l.Pages().Open(64)
	if n, e := r.l.Flush(64); n != 0 || e != errArg || len(r.d.Flight()) != 0 {
		t.Fatal(n, e)
	}
}

func TestLand(t *testing.T) {
	two := func() *run {
		r := made(t, config(4, 64, 1))
		r.to(3)
		r.readOnly(3, ok)
		r.land(0)
		r.flush(0, 1, ok)
		r.flush(1, 2, ok)
		r.land(0)
		return r
	}
	marks := func(r *run, want int) {
		t.Helper()
		if is := r.l.Marks().All(); !slices.Equal(is, []int{3, 3, want, 0, 0}) {
			t.Fatal(is)
		}
	}
	flying := func(r *run, want ...bool) {
		t.Helper()
		for page, flies := range want {
			if r.l.Flying(page) != flies {
				t.Fatal(page, "flies:", !flies)
			}
		}
	}
	r := two()
	flying(r, true, true, false)
	marks(r, 0)
	r.do(1)
	r.land(1)
	flying(r, false, true, false)
	marks(r, 1)
	r.land(0)
	r.do(2)
	r.land(1)
	flying(r, false, false, false)
	marks(r, 2)
	r.land(0)

	r = two()
	r.do(2)
	r.land(1)
	flying(r, true, false, false)
	marks(r, 0)
	r.flush(1, 0, errThere)
	r.do(1)
	r.land(1)
	marks(r, 2)

	r = two()
	r.do(2)
	r.do(1)
	marks(r, 0)
	r.land(2)
	marks(r, 2)
	flying(r, false, false, false)
	r.flush(1, 0, errThere)
	r.flush(0, 0, errThere)

	// Its answer is taken: of each write once.
	for n := 1; n <= 2; n++ {
		if _, e := r.d.Take(n); e != errNone {
			t.Fatal(n, e)
		}
	}

	// Three, the one in the middle last: the mark waits for it.
	r = two()
	r.flush(2, 3, ok)
	r.do(3)
	r.do(1)
	r.land(2)
	marks(r, 1)
	flying(r, false, true, false)
	r.do(2)
	r.land(1)
	marks(r, 3)
}

// A page flies till Land has heard of its write.
func TestFlyingTillItLands(t *testing.T) {
	r := made(t, config(4, 64, 1))
	r.to(3)
	r.readOnly(3, ok)
	r.flush(0, 1, ok)
	r.do(1)
	if !r.l.Flying(0) || r.l.Marks().At(flushed) != 0 {
		t.Fatal("it landed by itself")
	}
	r.flush(0, 0, errThere)
	r.land(1)
	if r.l.Flying(0) {
		t.Fatal("it flies, though it landed")
	}
	r.flush(0, 0, errThere)
	for _, page := range append([]int{0, 1, 2, 3, 4, 64}, strangers...) {
		if r.l.Flying(page) {
			t.Fatal(page)
		}
	}
}

// What no Flush asked for plays no part, be it of the same block, or answered.
func TestLandOfWhatOthersAsked(t *testing.T) {
	r := made(t, config(4, 64, 1))
	r.to(3)
	r.readOnly(3, ok)
	r.write(api.Block{No: 0}, "other")
	r.read(api.Block{No: 1})
	r.write(api.Block{Area: 1, No: 1}, "picture")
	r.land(0)
	if r.l.Flying(0) || r.l.Flying(1) {
		t.Fatal("it flies without a Flush")
	}
	r.do(1)
	r.do(2)
	r.do(3)
	r.land(0)
	if is := r.l.Marks().At(flushed); is != 0 {
		t.Fatal(is)
	}
	if _, e := r.d.Take(1); e != ok {
		t.Fatal("its answer was taken:", e)
	}
	r.m.all[0].answer = false
	if _, e := r.d.Take(3); e != ok {
		t.Fatal("its answer was taken:", e)
	}
	r.m.all[2].answer = false
	r.flush(0, 4, ok)
	r.read(api.Block{No: 0})
	r.do(5)
	r.land(0)
	r.do(4)
	r.write(api.Block{No: 0}, "another")
	r.land(1)
	if s, e := r.d.Take(5); s != "other" || e != ok {
		t.Fatal(s, e)
	}
}

// Where the power was gone, what was under way never lands: it may be flushed anew, when Land has found that out.
func TestLandBehindACrash(t *testing.T) {
	r := made(t, config(4, 64, 1))
	r.to(3)
	r.readOnly(3, ok)
	r.flush(0, 1, ok)
	r.flush(1, 2, ok)
	r.do(2)
	r.crash()
	r.land(0)
	r.start()
	r.land(0)
	if r.l.Flying(0) || r.l.Flying(1) || r.l.Marks().At(flushed) != 0 {
		t.Fatal("it flies, though nothing is under way")
	}
	r.flush(1, 3, ok)
	r.help(true) // page 0, likewise
	r.do(3)
	r.do(4)
	r.land(2)
	if is := r.l.Marks().At(flushed); is != 2 {
		t.Fatal(is)
	}

	r = made(t, config(4, 64, 1))
	r.to(3)
	r.readOnly(3, ok)
	r.flush(0, 1, ok)
	r.flush(1, 2, ok)
	r.do(2)
	r.land(1)
	r.crash()
	r.start()
	r.land(0)
	r.flush(1, 0, errThere) // what has landed stays
	r.flush(0, 3, ok)
	r.do(3)
	r.land(1)
	if is := r.l.Marks().At(flushed); is != 2 {
		t.Fatal(is)
	}
}

// MarkFlushed may be raised by hand: what flies below lands all the same.
func TestLandBelowAMarkRaisedByHand(t *testing.T) {
	r := made(t, config(4, 64, 1))
	r.to(3)
	r.readOnly(3, ok)
	r.flush(0, 1, ok)
	r.flush(2, 2, ok)
	r.do(2)
	r.land(1)
	r.l.Marks().Raise(flushed, 2, 3)
	r.m.marks[flushed] = 2
	r.land(0)
	r.do(1)
	r.land(1)
	if is := r.l.Marks().At(flushed); is != 3 || r.l.Flying(0) {
		t.Fatal(is)
	}
}

func TestPartsAreTheLogs(t *testing.T) {
	r := made(t, config(2, 4, 1))
	l := r.l
	if l.Pages() == nil || l.Pages() != l.Pages() || l.Marks() == nil || l.Marks() != l.Marks() || l.Tail() == nil || l.Tail() != l.Tail() || l.Epoch() == nil || l.Epoch() != l.Epoch() || l.Device() != r.d {
		t.Fatal("other parts")
	}
	l.Tail().Take(5)
	if a, kind, e := l.Take(1); a != 6 || kind != 1 || e != ok {
		t.Fatal(a, kind, e)
	}
}

func TestNilLog(t *testing.T) {
	var l *hlog.Log
	numbers := append([]int{0, 1, 5}, strangers...)
	for _, n := range numbers {
		if a, kind, e := l.Take(n); a != 0 || kind != 0 || e != errNil {
			t.Error("Take", n, a, kind, e)
		}
		if is, e := l.Flush(n); is != 0 || e != errNil {
			t.Error("Flush", n, is, e)
		}
		if e := l.Begin(n); e != errNil {
			t.Error("Begin", n, e)
		}
		if e := l.ShiftReadOnly(n); e != errNil {
			t.Error("ShiftReadOnly", n, e)
		}
		if e := l.ShiftHead(n); e != errNil {
			t.Error("ShiftHead", n, e)
		}
		if l.Flying(n) {
			t.Error("Flying", n)
		}
		if is := l.Region(uint64(n)); is != noRegion {
			t.Error("Region", n, is)
		}
	}
	if e := l.Turn(); e != errNil {
		t.Error("Turn", e)
	}
	if e := l.Close(); e != errNil {
		t.Error("Close", e)
	}
	if l.Help() {
		t.Error("Help")
	}
	if n := l.Land(); n != 0 {
		t.Error("Land", n)
	}
	if n := l.Settle(); n != 0 {
		t.Error("Settle", n)
	}
	if l.Pages() != nil || l.Marks() != nil || l.Tail() != nil || l.Epoch() != nil || l.Device() != nil || len(l.Waiting()) != 0 {
		t.Error("there are parts")
	}
}
