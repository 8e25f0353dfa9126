package hlog_test

import (
	"fmt"
	"math/rand"
	"slices"
	"testing"

	"haycroft/api"
	"haycroft/frame"
)

// The kinds of steps of a run.
const (
	doTake = iota
	doTurn
	doClose
	doHelp
	doReadOnly
	doHead
	doFlush
	doLand
	doSettle
	doEnter
	doRefresh
	doLeave
	doDo
	doStore
	doBegin
	doWrite
	doRead
	doCrash
	doStart
	steps
)

// step is one: a kind, and a number that it is of.
type step struct {
	kind int
	n    int
}

// told lays out what calls tell.
func told(all ...any) string { return fmt.Sprint(all...) }

// enters: what the table of epochs tells of one who comes, stays and goes.
func (m *model) enters(kind, s int) api.Errno {
	if s < 0 || s >= len(m.seen) {
		return errArg
	}
	if kind == doEnter {
		if m.seen[s] != 0 {
			return errThere
		}
		m.seen[s] = m.now
		return ok
	}
	if m.seen[s] == 0 {
		return errNone
	}
	m.seen[s] = 0
	if kind == doRefresh {
		m.seen[s] = m.now
	}
	return ok
}

// does has the log do a step, and the model: what each tells.
func (r *run) does(x step) (string, string) {
	l, m := r.l, r.m
	switch x.kind {
	case doTake:
		a, kind, e := l.Take(x.n)
		ma, mkind, me := m.take(x.n)
		return told(a, kind, e), told(ma, mkind, me)
	case doTurn:
		return told(l.Turn()), told(m.turn())
	case doClose:
		return told(l.Close()), told(m.close())
	case doHelp:
		return told(l.Help()), told(m.help())
	case doReadOnly:
		return told(l.ShiftReadOnly(x.n)), told(m.shift(readOnly, x.n))
	case doHead:
		return told(l.ShiftHead(x.n)), told(m.shift(head, x.n))
	case doFlush:
		n, e := l.Flush(x.n)
		mn, me := m.flush(x.n)
		return told(n, e), told(mn, me)
	case doLand:
		return told(l.Land()), told(m.land())
	case doSettle:
		return told(l.Settle()), told(m.settle())
	case doEnter:
		return told(l.Epoch().Enter(x.n)), told(m.enters(x.kind, x.n))
	case doRefresh:
		return told(l.Epoch().Refresh(x.n)), told(m.enters(x.kind, x.n))
	case doLeave:
		return told(l.Epoch().Leave(x.n)), told(m.enters(x.kind, x.n))
	case doBegin:
		return told(l.Begin(x.n)), told(m.begin(x.n))
	}
	return r.doesAside(x)
}

// doesAside: what is done to the log's device, and to its words.
func (r *run) doesAside(x step) (string, string) {
	m, b := r.m, api.Block{Area: x.n % 2, No: x.n / 2}
	switch x.kind {
	case doDo:
		return told(r.d.Do(x.n)), told(m.do(x.n))
	case doStore:
		page := x.n / m.size
		if m.in[page] == nil || page < m.marks[safe] {
			return "", ""
		}
		m.in[page][x.n%m.size]++
		return told(r.l.Pages().Store(uint64(x.n), m.in[page][x.n%m.size])), told(ok)
	case doWrite:
		n, e := r.d.Write(b, "other")
		mn, me := m.ask(asked{block: b, write: true, text: "other", page: -1})
		return told(n, e), told(mn, me)
	case doRead:
		n, e := r.d.Read(b)
		mn, me := m.ask(asked{block: b, page: -1})
		return told(n, e), told(mn, me)
	case doCrash:
		if m.off {
			return told(r.d.Crash(nil)), told(errDown)
		}
		m.crash()
		return told(r.d.Crash(nil)), told(ok)
	case doStart:
		if !m.off {
			return told(r.d.Start()), told(errBusy)
		}
		m.off = false
		return told(r.d.Start()), told(ok)
	}
	return "", ""
}

// follows: both tell the same of a step.
func (r *run) follows(x step, behind []step) {
	r.t.Helper()
	if is, want := r.does(x); is != want {
		r.t.Fatalf("behind %v: %v tells %s, not %s", behind, x, is, want)
	}
}

// plain are the steps of short runs, from where a log stands: what leads a page to the device, and out of its frame.
func (r *run) plain() []step {
	m := r.m
	last := len(m.all)
	l := []step{{doTake, m.size}, {doTurn, 0}, {doClose, 0}, {doHelp, 0}, {doReadOnly, m.page}, {doHead, m.marks[flushed]}, {doFlush, m.marks[flushed]}, {doFlush, m.marks[safe] - 1}, {doLand, 0}, {doSettle, 0}, {doDo, last}, {doDo, last - 1}}
	if m.seen[0] == 0 {
		return append(l, step{doEnter, 0})
	}
	return append(l, step{doRefresh, 0}, step{doLeave, 0})
}

// All runs of four steps, from some logs.
func TestAllShortRuns(t *testing.T) {
	from := []func() *run{
		func() *run { return silent(t, config(2, 3, 1)) },
		func() *run {
			r := silent(t, config(2, 4, 1))
			r.to(1)
			r.fill()
			return r
		},
		func() *run {
			r := silent(t, config(3, 6, 1))
			r.to(2)
			r.fill()
			r.readOnly(2, ok)
			r.flush(1, 1, ok)
			r.enter(0)
			return r
		},
		func() *run {
			r := silent(t, config(2, 4, 1))
			r.begin(2, ok)
			r.fill()
			return r
		},
	}
	for _, start := range from {
		var go4 func(done []step)
		go4 = func(done []step) {
			r := start()
			for i, x := range done {
				r.follows(x, done[:i])
			}
			if len(done) == 4 {
				r.quiet = false
				r.stands()
				return
			}
			for _, x := range r.plain() {
				go4(append(slices.Clone(done), x))
			}
		}
		go4(nil)
	}
}

// lot draws steps; it keeps what the chapter promises of any run.
type lot struct {
	*run
	rnd  *rand.Rand
	kept []map[int]bool   // of each session that is in: the pages that must stay in
	was  map[int][]uint64 // of each page that was flushed: its words
}

func newLot(t *testing.T, seed int64) *lot {
	rnd := rand.New(rand.NewSource(seed))
	c := api.Config{Bits: 5, Frames: 2 + rnd.Intn(3), Space: 1 + rnd.Intn(20), Sessions: 1 + rnd.Intn(3)}
	if rnd.Intn(8) == 0 {
		c.Frames, c.Space = 8, 64
	}
	return &lot{run: made(t, c), rnd: rnd, kept: make([]map[int]bool, c.Sessions), was: map[int][]uint64{}}
}

// between is a number from one below the least to one above the most.
func (x *lot) between(least, most int) int {
	return least - 1 + x.rnd.Intn(most-least+3)
}

// near is a page that a step may be of: of a shift or a Flush one about what may be, of others any.
func (x *lot) near(kind int) int {
	m := x.m
	switch {
	case x.rnd.Intn(40) == 0:
		return strangers[x.rnd.Intn(len(strangers))]
	case kind == doReadOnly:
		return x.between(m.marks[readOnly], m.page)
	case kind == doHead:
		return x.between(m.marks[head], m.marks[flushed])
	case kind == doFlush:
		return x.between(m.marks[flushed], m.marks[safe])
	}
	return x.between(0, m.space)
}

// ticket is one that is under way, if there is one.
func (x *lot) ticket() int {
	if l := x.m.flight(); len(l) > 0 {
		return l[x.rnd.Intn(len(l))]
	}
	return len(x.m.all)
}

// draw is a step; some come seldom, so that logs come far.
func (x *lot) draw() step {
	kind := x.rnd.Intn(steps + 8)
	rare := kind == doBegin || kind == doWrite || kind == doRead || kind == doCrash
	if kind >= steps || rare && x.rnd.Intn(12) > 0 {
		kind = []int{doTake, doTurn, doStart, doDo, doRefresh, doLeave}[x.rnd.Intn(6)]
	}
	n := x.near(kind)
	switch kind {
	case doTake:
		n = []int{0, 1, 16, 31, 32, 32, 33, x.rnd.Intn(32)}[x.rnd.Intn(8)]
	case doEnter, doRefresh, doLeave:
		n = x.rnd.Intn(x.c.Sessions)
	case doDo:
		n = x.ticket()
	case doStore:
		n = x.rnd.Intn((x.m.page + 1) * x.m.size)
	case doWrite, doRead:
		n = x.rnd.Intn(2 * x.c.Space)
	}
	return step{kind, n}
}

// goes: a step is done; each page that must stay in does, what is flushed is as it was, and no more pages are in than frames.
func (x *lot) goes(s step, behind []step) {
	x.t.Helper()
	asked := len(x.m.all)
	x.follows(s, behind)
	for page, words := range x.was {
		if now, e := x.l.Pages().Page(page); e == ok && !slices.Equal(now, words) {
			x.t.Fatalf("behind %v: page %d was flushed, and turned: %v, not %v", behind, page, now, words)
		}
	}
	if n := len(x.m.all); n > asked && x.m.all[n-1].page >= 0 {
		page := x.m.all[n-1].page
		x.was[page], _ = x.l.Pages().Page(page)
	}
	x.keeps(s, behind)
}

// keeps notes who may see what, and that it is there.
func (x *lot) keeps(s step, behind []step) {
	x.t.Helper()
	in := x.l.Pages().In()
	if len(in) > x.c.Frames {
		x.t.Fatalf("behind %v: in are %v", behind, in)
	}
	for session := range x.c.Sessions {
		sees := x.l.Epoch().Seen(session) != 0
		moved := session == s.n && (s.kind == doEnter && x.kept[session] == nil || s.kind == doRefresh)
		switch {
		case !sees:
			x.kept[session] = nil
		case moved:
			x.kept[session] = map[int]bool{}
			for _, page := range in {
				if page >= x.l.Marks().At(head) {
					x.kept[session][page] = true
				}
			}
		}
		for page := range x.kept[session] {
			if !x.l.Pages().Has(page) {
				x.t.Fatalf("behind %v: page %d is gone, while %d may see it", behind, page, session)
			}
		}
	}
}

// landedWell: what the device has of a page that landed is the page, unless others wrote there.
func (x *lot) landedWell() {
	x.t.Helper()
	for page, words := range x.was {
		s, _ := x.d.Peek(api.Block{No: page})
		n, on, e := frame.Unpack(s)
		if e == ok && (n != page || !slices.Equal(on, words)) {
			x.t.Fatalf("page %d was flushed as %v: there are %d, %v", page, words, n, on)
		}
		if e != ok && s != "other" && x.m.hasLanded(page) {
			x.t.Fatalf("page %d isn't there, though it landed", page)
		}
	}
}

func TestRunsByLot(t *testing.T) {
	far := 0
	for seed := range int64(600) {
		x := newLot(t, seed)
		var done []step
		for range 400 {
			s := x.draw()
			done = append(done, s)
			x.goes(s, done)
			if len(done)%5 == 0 {
				x.stands()
			}
		}
		x.stands()
		x.landedWell()
		if x.m.marks[gone] > x.c.Frames {
			far++
		}
	}
	if far < 200 {
		t.Fatalf("but %d runs come far", far)
	}
}

// With everybody going on in turn, a tail comes to its space's end: nothing holds it up for ever.
func TestATailComesToTheEnd(t *testing.T) {
	for frames := 2; frames <= 8; frames++ {
		r := made(t, config(frames, 64, 3))
		for s := range 3 {
			r.enter(s)
		}
		for n := 0; !r.m.last(); n++ {
			if n > 64*20 {
				t.Fatal("it is held up:", r.view())
			}
			if !r.m.over() {
				r.l.Take(32)
				r.m.take(32)
				continue
			}
			if is, want := r.l.Turn(), r.m.turn(); is != want {
				t.Fatal(is, want)
			}
			r.l.Epoch().Refresh(n % 3)
			r.m.seen[n%3] = r.m.now
			for _, ticket := range r.m.flight() {
				r.d.Do(ticket)
				r.m.do(ticket)
			}
			if is, want := told(r.l.Land(), r.l.Settle()), told(r.m.land(), r.m.settle()); is != want {
				t.Fatal(is, want)
			}
		}
		r.stands()
		if n := len(r.d.Blocks()); n != 64-frames {
			t.Fatalf("%d pages are on the device, of %d frames", n, frames)
		}
	}
}

// The same calls tell the same, whatever order a map is gone through in.
func TestTheSameCallsTellTheSame(t *testing.T) {
	for seed := range int64(20) {
		var views []string
		for range 3 {
			x := newLot(t, seed)
			s := ""
			for range 200 {
				is, _ := x.does(x.draw())
				s += is
			}
			views = append(views, s+x.view())
		}
		if views[0] != views[1] || views[0] != views[2] {
			t.Fatal(seed, views)
		}
	}
}
