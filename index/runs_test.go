package index_test

import (
	"math"
	"math/rand"
	"slices"
	"testing"

	"haycroft/api"
	"haycroft/index"
)

// The kinds of steps of a run.
const (
	doClaim = iota
	doTurn
	doSpare
	doLink
	doFill
	doDrop
	doPut
	kinds
)

// step is one: a kind, and what it is of.
type step struct {
	kind int
	slot int
	n    uint64
	addr uint64
}

// kept is what an index was once: the words, that a Fill brings back.
type kept struct {
	words []uint64
	model model
}

// does has the index do a step, and the model: what each tells.
func (r *run) does(x step, was []uint64) (string, string) {
	switch x.kind {
	case doClaim:
		won, e := r.x.Claim(x.slot, x.n)
		mwon, me := r.m.claim(x.slot, x.n)
		return told(won, e), told(mwon, me)
	case doTurn:
		won, e := r.x.Turn(x.slot, x.n, x.addr)
		mwon, me := r.m.turn(x.slot, x.n, x.addr)
		return told(won, e), told(mwon, me)
	case doSpare:
		n, e := r.x.Spare()
		mn, me := r.m.spare()
		return told(n, e), told(mn, me)
	case doLink:
		won, e := r.x.Link(x.slot, int(x.n))
		mwon, me := r.m.link(x.slot, int(x.n))
		return told(won, e), told(mwon, me)
	case doFill:
		return told(r.x.Fill(was)), told(r.m.fill(was))
	case doDrop:
		return told(r.x.Drop()), told(r.m.drop())
	}
	// As a task claims: what Look tells.
	l := r.look(x.n)
	switch l.Kind {
	case found:
		return r.does(step{kind: doTurn, slot: l.Slot, n: l.Word, addr: x.addr}, nil)
	case free:
		return r.does(step{kind: doClaim, slot: l.Slot, n: x.n}, nil)
	}
	n, e := r.x.Spare()
	mn, me := r.m.spare()
	if e != ok || me != ok {
		return told(n, e), told(mn, me)
	}
	won, e := r.x.Link(l.Bucket, n)
	mwon, me := r.m.link(l.Bucket, mn)
	return told(n, won, e), told(mn, mwon, me)
}

// follows: both tell the same of a step.
func (r *run) follows(x step, was []uint64, behind []step) {
	r.t.Helper()
	if is, want := r.does(x, was); is != want {
		r.t.Fatalf("behind %v: %v tells %s, not %s", behind, x, is, want)
	}
}

// All runs of four steps of few kinds, in small indices: what the steps do to one another.
func TestAllShortRuns(t *testing.T) {
	steps := []step{{kind: doSpare}, {kind: doDrop}, {kind: doFill},
		{kind: doClaim, slot: 0, n: number(1, 0)}, {kind: doClaim, slot: 8, n: number(2, 0)}, {kind: doClaim, slot: 17, n: number(1, 0)},
		{kind: doTurn, slot: 0, n: fresh(1), addr: 9}, {kind: doTurn, slot: 8, n: fresh(2), addr: 8},
		{kind: doLink, slot: 0, n: 1}, {kind: doLink, slot: 0, n: 2}, {kind: doLink, slot: 1, n: 2}, {kind: doLink, slot: 2, n: 1}, {kind: doPut, n: number(3, 0), addr: 7}}
	from := []func() *run{
		func() *run { return made(t, 1, 2) },
		func() *run {
			r := made(t, 1, 2)
			r.full(0, 4, 11, these(5, 6))
			r.spare(1, ok)
			r.spare(2, ok)
			return r
		},
		func() *run {
			r := made(t, 1, 2)
			r.full(0, 4, 13, these(4, 11))
			r.spare(2, ok)
			r.link(1, 2, true, ok)
			return r
		},
	}
	for _, start := range from {
		other := start().x.Words()
		other[1], other[0] = points(9, 9), max(1, other[0])
		for i := range len(steps) * len(steps) * len(steps) * len(steps) {
			r := start()
			var done []step
			for n, left := 0, i; n < 4; n, left = n+1, left/len(steps) {
				x := steps[left%len(steps)]
				r.follows(x, other, done)
				done = append(done, x)
			}
			r.words()
		}
	}
}

// lot draws steps.
type lot struct {
	*run
	rnd  *rand.Rand
	tags int
	was  []uint64
}

func newLot(t *testing.T, seed int64) *lot {
	rnd := rand.New(rand.NewSource(seed))
	r := made(t, 1<<rnd.Intn(4), rnd.Intn(7))
	return &lot{run: r, rnd: rnd, tags: 1 + rnd.Intn(40), was: r.x.Words()}
}

// number is one of few tags.
func (x *lot) number() uint64 {
	tag := uint64(x.rnd.Intn(x.tags))
	if x.rnd.Intn(4) == 0 {
		tag = tags - 1 - tag
	}
	return tag*tagUnit + x.rnd.Uint64()%tagUnit
}

// addr is one that may be, or seldom one that may not.
func (x *lot) addr() uint64 {
	l := []uint64{1, 2, addrs - 1, uint64(1 + x.rnd.Intn(1000)), uint64(1 + x.rnd.Intn(1000)), 70, 0, addrs}
	return l[x.rnd.Intn(len(l))]
}

// place is a bucket, or a slot, out of so many, or seldom one that there isn't.
func (x *lot) place(most int) int {
	if x.rnd.Intn(30) == 0 {
		return strangers[x.rnd.Intn(len(strangers))]
	}
	return x.rnd.Intn(most+2) - 1
}

// words are some that may be filled in: what it was once, with more taken, or of a wrong length.
func (x *lot) words() []uint64 {
	l := slices.Clone(x.was)
	switch x.rnd.Intn(6) {
	case 0:
		return l[:x.rnd.Intn(len(l))]
	case 1:
		return append(l, 0)
	case 2:
		l[0] += uint64(x.rnd.Intn(3))
	}
	return l
}

// draw is a step; what Look tells comes often, Fill and Drop seldom.
func (x *lot) draw() step {
	s := step{kind: x.rnd.Intn(kinds + 6), n: x.number(), addr: x.addr(), slot: x.place(8 * len(x.m.all))}
	if s.kind > doPut || (s.kind == doFill || s.kind == doDrop) && x.rnd.Intn(8) > 0 {
		s.kind = doPut
	}
	switch s.kind {
	case doTurn:
		s.n = x.old(s.slot)
	case doLink:
		s.slot = x.place(len(x.m.all))
		s.n = uint64(x.place(len(x.m.all)))
	}
	return s
}

// old is a word that a Turn thinks is there: what is, or what isn't, or what is none's.
func (x *lot) old(slot int) uint64 {
	w := x.m.load(slot)
	switch x.rnd.Intn(8) {
	case 0:
		return fresh(x.number() / tagUnit)
	case 1:
		return points(x.number()/tagUnit, 1)
	case 2:
		return w + 1
	case 3:
		return x.rnd.Uint64()
	}
	return w
}

func TestRunsByLot(t *testing.T) {
	grown := 0
	for seed := range int64(400) {
		x := newLot(t, seed)
		var done []step
		for range 300 {
			s := x.draw()
			done = append(done, s)
			x.follows(s, x.words(), done)
			if x.rnd.Intn(30) == 0 {
				x.was = x.x.Words()
			}
			if len(done)%10 == 0 {
				x.run.words()
			}
		}
		x.stands()
		if x.m.drop() != x.x.Drop() {
			t.Fatal(seed)
		}
		x.stands()
		x.gapless()
		if x.m.taken > 1 {
			grown++
		}
	}
	if grown < 50 {
		t.Fatalf("but %d runs have chains of more than one bucket", grown)
	}
}

// gapless: behind a Drop no entry is fresh, and free slots stand behind all others.
func (x *lot) gapless() {
	x.t.Helper()
	for b := range x.m.n {
		l, open := x.x.Chain(b), false
		for i, c := range l {
			for k := range slots {
				w := x.x.Load(8*c + k)
				if w/isFresh%2 == 1 || w != 0 && open {
					x.t.Fatalf("bucket %d: slot %d of %d has %x", b, k, c, w)
				}
				open = open || w == 0
			}
			if i > 0 && x.x.Load(8*c) == 0 {
				x.t.Fatalf("bucket %d: the spare bucket %d has nothing", b, c)
			}
		}
	}
}

// Words that no call laid: no promise holds, but each call ends, and none panics.
func TestWordsThatNoCallLaid(t *testing.T) {
	links := []uint64{0, 1, 2, 3, 4, 5, 6, 7, 8, 1 << 32, 1 << 63, math.MaxUint64}
	rnd := rand.New(rand.NewSource(17))
	for seed := range 400 {
		n, spare := 1<<rnd.Intn(3), rnd.Intn(4)
		x, _ := index.New(n, spare)
		for range 3 {
			l := make([]uint64, 1+8*(n+spare))
			l[0] = uint64(rnd.Intn(spare + 1))
			for i := 1; i < len(l); i++ {
				l[i] = []uint64{0, rnd.Uint64(), fresh(uint64(i)), points(1, 1), points(uint64(i), 5)}[rnd.Intn(5)]
				if i%8 == 0 {
					l[i] = links[rnd.Intn(len(links))]
				}
			}
			if e := x.Fill(l); e != ok || !slices.Equal(x.Words(), l) {
				t.Fatal(seed, e)
			}
			for b := -1; b <= n+spare; b++ {
				x.Chain(b)
				x.Look(number(1, b))
				x.Link(b, n)
				x.Turn(8*b, l[1], 5)
			}
			x.Entries()
			x.Spare()
			x.Drop()
			x.Entries()
			x.Look(0)
			x.Words()
		}
	}
	// Links that lead round in the greatest index.
	x, _ := index.New(1024, 64)
	l := make([]uint64, 1+8*1088)
	for i := range l {
		l[i] = points(3, 5)
		if i%8 == 0 {
			l[i] = 1 + uint64(i/8+1)%1088
		}
	}
	l[0] = 64
	if e := x.Fill(l); e != ok {
		t.Fatal(e)
	}
	for b := range 1088 {
		x.Chain(b)
	}
	x.Link(5, 1030)
	x.Look(0)
	x.Entries()
	x.Drop()
	x.Entries()
}

// The same calls tell the same.
func TestTheSameCallsTellTheSame(t *testing.T) {
	for seed := range int64(20) {
		var views []string
		for range 3 {
			x := newLot(t, seed)
			s := ""
			for range 200 {
				is, _ := x.does(x.draw(), x.was)
				s += is
			}
			won, lost := x.x.Counts()
			views = append(views, s+told(x.x.Words(), won, lost))
		}
		if views[0] != views[1] || views[0] != views[2] {
			t.Fatal(seed, views)
		}
	}
}

// P17.5

// claimer is one who claims tags as Look tells, one move at a time; what it saw may be old by then.
type claimer struct {
	h    uint64
	look api.Look
	held int
	at   int
}

// moves does the next move.
func (c *claimer) moves(r *run, next func() uint64) {
	r.t.Helper()
	switch {
	case c.at == 0:
		c.look = r.look(c.h)
		c.at = c.look.Kind
		if c.at == found {
			c.h, c.at = next(), 0
		}
	case c.at == free:
		won, e := r.x.Claim(c.look.Slot, c.h)
		if mwon, me := r.m.claim(c.look.Slot, c.h); won != mwon || e != me || e != ok {
			r.t.Fatal(won, e, mwon, me)
		}
		c.at = 0
	case c.held == 0:
		c.holds(r, next)
	default:
		won, e := r.x.Link(c.look.Bucket, c.held)
		if mwon, me := r.m.link(c.look.Bucket, c.held); won != mwon || e != me || e != ok {
			r.t.Fatal(won, e, mwon, me)
		}
		c.at = 0
		if won {
			c.held = 0
		}
	}
}

// holds: it takes a spare bucket, if there is one; else it goes on to another tag.
func (c *claimer) holds(r *run, next func() uint64) {
	r.t.Helper()
	n, e := r.x.Spare()
	if mn, me := r.m.spare(); n != mn || e != me {
		r.t.Fatal(n, e, mn, me)
	}
	c.held = n
	if e != ok {
		c.h, c.at = next(), 0
	}
}

// Some who claim as Look tells, in any order of their moves: no tag stands twice in a chain, also behind Drop and behind Fill.
func TestNoTagStandsTwice(t *testing.T) {
	lost, long := 0, 0
	for seed := range int64(300) {
		rnd := rand.New(rand.NewSource(seed))
		n, spare := 1<<rnd.Intn(3), rnd.Intn(9)
		r := made(t, n, spare)
		most := 1 + rnd.Intn(60)
		next := func() uint64 { return number(uint64(rnd.Intn(most)), rnd.Intn(1024)) }
		who := make([]claimer, 1+rnd.Intn(5))
		for i := range who {
			who[i].h = next()
		}
		for i := range 500 {
			who[rnd.Intn(len(who))].moves(r, next)
			r.parted()
			if i%100 == 99 {
				rests(r, rnd, who, next)
			}
		}
		r.stands()
		_, b := r.x.Counts()
		lost += b
		if len(r.x.Chain(0)) > 2 {
			long++
		}
	}
	if lost < 100 || long < 50 {
		t.Fatalf("but %d tries were lost, and %d chains are long", lost, long)
	}
}

// rests: nobody is at work: some entries point somewhere, then there is a Drop, or a Fill of another one; all begin anew.
func rests(r *run, rnd *rand.Rand, who []claimer, next func() uint64) {
	r.t.Helper()
	for slot := range 8 * len(r.m.all) {
		if w := r.m.load(slot); w/isFresh%2 == 1 && rnd.Intn(3) > 0 {
			r.turn(slot, w, uint64(1+slot), true, ok)
		}
	}
	if rnd.Intn(2) == 0 {
		y, _ := index.New(r.m.n, len(r.m.all)-r.m.n)
		if e := y.Fill(r.x.Words()); e != ok {
			r.t.Fatal(e)
		}
		if r.x = y; !slices.Equal(y.Words(), r.m.words()) {
			r.t.Fatal(y.Words(), r.m.words())
		}
		r.m.won, r.m.lost = 0, 0
	}
	if rnd.Intn(2) == 0 {
		r.drop(r.fresh())
	}
	r.parted()
	for i := range who {
		who[i] = claimer{h: next()}
	}
}

// fresh: how many entries point nowhere.
func (r *run) fresh() int {
	n := 0
	for _, w := range r.x.Entries() {
		if w/isFresh%2 == 1 {
			n++
		}
	}
	return n
}

// Of two tries that saw the same, one loses: of each kind, whoever comes first.
func TestOfTwoTriesOneLoses(t *testing.T) {
	r := made(t, 1, 3)
	r.spare(1, ok)
	r.spare(2, ok)
	one, two := r.look(number(1, 0)), r.look(number(2, 0))
	if one.Slot != two.Slot {
		t.Fatal(one, two)
	}
	r.claim(one.Slot, number(1, 0), true, ok)
	r.claim(two.Slot, number(2, 0), false, ok)
	one, two = r.look(number(1, 0)), r.look(number(1, 0))
	r.turn(one.Slot, one.Word, 70, true, ok)
	r.turn(two.Slot, two.Word, 71, false, ok)
	one, two = r.look(number(1, 0)), r.look(number(1, 0))
	r.turn(two.Slot, two.Word, 71, true, ok)
	r.turn(one.Slot, one.Word, 72, false, ok)
	one, two = r.look(number(3, 0)), r.look(number(4, 0))
	r.link(one.Bucket, 1, true, ok)
	r.link(two.Bucket, 2, false, ok)
	r.counts(4, 4)
	r.stands()
}
