package inplace_test

import (
	"slices"
	"testing"

	"haycroft/api"
	"haycroft/inplace"
	"haycroft/pages"
)

// The numbers of the chapters, written out, so that nothing here leans on the program's own ones.
const (
	ok      = api.Errno(0)
	errArg  = api.Errno(1)
	errNil  = api.Errno(2)
	errForm = api.Errno(4)
	errNone = api.Errno(7)

	none = 0
	more = 1
	done = 2
	busy = 3

	leastBits = 5
	mostBits  = 9
	mostKey   = 64
	mostValue = 128
	lastAddr  = 1<<48 - 1
	allOnes   = 1<<64 - 1
	lockBit   = 1 << 63
	counts    = 1 << 32
)

// The kinds of those who move.
const (
	writer = 0
	adder  = 1
	reader = 2
)

// What a move is at.
const (
	toTake  = 0
	toLook  = 1
	toWrite = 2
	toGive  = 3
	toNote  = 4
	toRead  = 5
	toHold  = 6
)

// wordsOf: a text's, by place values.
func wordsOf(s string) []uint64 {
	l := make([]uint64, (len(s)+7)/8)
	for i := range len(s) {
		p := uint64(1)
		for range i % 8 {
			p *= 256
		}
		l[i/8] += uint64(s[i]) * p
	}
	return l
}

// textOf: so many bytes of words.
func textOf(l []uint64, n int) string {
	var s []byte
	for i := range n {
		w := l[i/8]
		for range i % 8 {
			w /= 256
		}
		s = append(s, byte(w%256))
	}
	return string(s)
}

// valueAt: the place of a value behind a key of so many bytes.
func valueAt(key int) uint64 {
	return uint64(3 + (key+7)/8)
}

// laid: the words of a record with such a key and value, as the chapters tell them.
func laid(key int, value string) []uint64 {
	name := make([]byte, key)
	for i := range name {
		name[i] = byte('a' + i%26)
	}
	l := []uint64{0, 0, uint64(key) + uint64(len(value))*65536 + 44203*counts}
	l = append(l, wordsOf(string(name))...)
	return append(l, wordsOf(value)...)
}

// memory is a page of words as a model has it: it is in, or not.
type memory struct {
	first uint64
	words []uint64
	in    bool
}

// at is the word at an address; it must be in the page.
func (m *memory) at(a uint64) *uint64 {
	return &m.words[a-m.first]
}

// actor is one who moves, as the chapter tells it: a plan of moves, and how many of them are done.
type actor struct {
	mem   *memory
	kind  int
	lock  uint64
	value uint64
	plan  []int
	did   int
	l     []uint64
	n     uint64
	seen  uint64
	bytes int
}

// newActor: of a record at an address; of a writer the value, of an adder the number, of a reader a value's length.
func newActor(m *memory, kind int, a uint64, key int, value string, n uint64) *actor {
	c := &actor{mem: m, kind: kind, lock: a + 1, value: a + valueAt(key), n: n, bytes: len(value)}
	c.l = wordsOf(value)
	c.plan = append(c.plan, []int{toTake, toTake, toNote}[kind])
	if kind == adder {
		c.plan = append(c.plan, toLook)
		c.l = []uint64{0}
	}
	for range c.l {
		c.plan = append(c.plan, []int{toWrite, toWrite, toRead}[kind])
	}
	c.plan = append(c.plan, []int{toGive, toGive, toHold}[kind])
	if kind == reader {
		clear(c.l)
	}
	return c
}

// word is the place of the value's word that a move is at: the first one of these stands at the plan's place 1, or behind the look of an adder.
func (c *actor) word() int {
	if c.kind == adder {
		return 0
	}
	return c.did - 1
}

// move: what comes of the next one.
func (c *actor) move() (int, api.Errno) {
	if c.did == len(c.plan) {
		return done, ok
	}
	if !c.mem.in {
		return none, errNone
	}
	lock := c.mem.at(c.lock)
	switch c.plan[c.did] {
	case toTake, toNote:
		if *lock >= lockBit {
			return busy, ok
		}
		c.seen = *lock
		if c.kind != reader {
			*lock += lockBit
		}
	case toLook:
		c.n += *c.mem.at(c.value)
		c.l[0] = c.n
	case toWrite:
		*c.mem.at(c.value + uint64(c.word())) = c.l[c.word()]
	case toRead:
		c.l[c.word()] = *c.mem.at(c.value + uint64(c.word()))
	case toGive:
		*lock = (c.seen + 1) % counts
	case toHold:
		if *lock != c.seen {
			c.did = 0
			return busy, ok
		}
	}
	c.did++
	if c.did == len(c.plan) {
		return done, ok
	}
	return more, ok
}

// writing: does it write?
func (c *actor) writing() bool {
	return c.kind != reader && c.did > 0 && c.did < len(c.plan)
}

// told: what a reader tells to have read.
func (c *actor) told() string {
	if c.kind != reader || c.did < len(c.plan) {
		return ""
	}
	return textOf(c.l, c.bytes)
}

// pair is one who moves, of the program and of the model.
type pair struct {
	w *inplace.Writer
	r *inplace.Reader
	m *actor
}

// move: the program's next one.
func (p *pair) move() (int, api.Errno) {
	if p.r != nil {
		return p.r.Move()
	}
	return p.w.Move()
}

// run is a buffer with one page and those who move on it, beside its model.
type run struct {
	t    *testing.T
	b    *pages.Buffer
	page int
	m    *memory
	all  []*pair
	did  []int // who moved
}

// newRun: a page of a size is in, of noughts.
func newRun(t *testing.T, bits, page int) *run {
	t.Helper()
	b, e := pages.New(bits, 2)
	if e != ok {
		t.Fatal(e)
	}
	size := 1
	for range bits {
		size *= 2
	}
	x := &run{t: t, b: b, page: page}
	x.m = &memory{first: uint64(page) * uint64(size), words: make([]uint64, size)}
	x.open()
	return x
}

// open: the page is in, of noughts.
func (x *run) open() {
	x.t.Helper()
	if e := x.b.Open(x.page); e != ok {
		x.t.Fatal(e)
	}
	clear(x.m.words)
	x.m.in = true
}

// close: it isn't in.
func (x *run) close() {
	x.t.Helper()
	if e := x.b.Close(x.page); e != ok {
		x.t.Fatal(e)
	}
	x.m.in = false
}

// again: the page is in, with the words that it had.
func (x *run) again() {
	x.t.Helper()
	was := slices.Clone(x.m.words)
	x.open()
	x.fill(x.m.first, was)
}

// fill lockBit words, in both.
func (x *run) fill(a uint64, l []uint64) {
	x.t.Helper()
	if e := x.b.Fill(a, l); e != ok {
		x.t.Fatal(a, e)
	}
	copy(x.m.words[a-x.m.first:], l)
}

// lay lays a record.
func (x *run) lay(a uint64, key int, value string) {
	x.t.Helper()
	x.fill(a, laid(key, value))
}

// joins: one more who moves; of a reader the value tells the length alone.
func (x *run) joins(kind int, a uint64, key int, value string, n uint64) *pair {
	x.t.Helper()
	p := &pair{m: newActor(x.m, kind, a, key, value, n)}
	var e api.Errno
	switch kind {
	case writer:
		p.w, e = inplace.NewWriter(x.b, a, key, value)
	case adder:
		p.w, e = inplace.NewAdder(x.b, a, key, n)
	case reader:
		p.r, e = inplace.NewReader(x.b, a, key, len(value))
	}
	if e != ok {
		x.t.Fatal(kind, a, key, len(value), e)
	}
	x.all = append(x.all, p)
	return p
}

// move: the next one of one of them, in both; and all is as the model has it.
func (x *run) move(who int) int {
	x.t.Helper()
	x.did = append(x.did, who)
	p := x.all[who]
	want, wantE := p.m.move()
	got, e := p.move()
	if got != want || e != wantE {
		x.t.Fatalf("moves %v: %d %d, not %d %d", x.did, got, e, want, wantE)
	}
	x.same()
	return got
}

// moves: these come of the next ones of one of them.
func (x *run) moves(p *pair, want ...int) {
	x.t.Helper()
	who := slices.Index(x.all, p)
	for i, v := range want {
		if got := x.move(who); got != v {
			x.t.Fatalf("move %d of %v: %d", i, want, got)
		}
	}
}

// same: the page's words, and what each one tells of itself, are as the model has them.
func (x *run) same() {
	x.t.Helper()
	if x.m.in {
		l, e := x.b.Page(x.page)
		if e != ok || !slices.Equal(l, x.m.words) {
			x.t.Fatalf("moves %v: the page is %x %d, not %x", x.did, l, e, x.m.words)
		}
	}
	for i, p := range x.all {
		if p.w.Holds() != p.m.writing() || p.r.Value() != p.m.told() {
			x.t.Fatalf("moves %v: %d holds %v and tells %q, not %v and %q", x.did, i, p.w.Holds(), p.r.Value(), p.m.writing(), p.m.told())
		}
	}
}
