package index_test

import (
	"math"
	"slices"
	"testing"

	"haycroft/api"
	"haycroft/index"
)

// The bounds, the kinds and the errors as numbers, written out, so that nothing here leans on the program's own ones.
const (
	slots       = 7
	mostSpare   = 64
	mostBuckets = 1024
)

const (
	found = 1
	free  = 2
	grow  = 3
)

const (
	ok      = api.Errno(0)
	errArg  = api.Errno(1)
	errNil  = api.Errno(2)
	errForm = api.Errno(4)
	errNone = api.Errno(7)
	errFull = api.Errno(9)
)

// Fields of entries' words, by place values.
const (
	addrs   = uint64(281474976710656)     // 2^48: so many addresses, and what a tag of 1 counts
	tags    = uint64(16384)               // 2^14
	isFresh = uint64(4611686018427387904) // 2^62
	isTaken = uint64(9223372036854775808) // 2^63
	tagUnit = uint64(1125899906842624)    // 2^50: what a tag of 1 counts in a key's number
)

// number is a key's number with a tag, of a bucket.
func number(tag uint64, bucket int) uint64 {
	return tag*tagUnit + uint64(bucket)
}

// fresh is the word of an entry that points nowhere yet.
func fresh(tag uint64) uint64 {
	return isTaken + isFresh + tag*addrs
}

// points is the word of an entry that points at an address.
func points(tag, addr uint64) uint64 {
	return isTaken + tag*addrs + addr
}

// bucket is one as the chapter tells it; link is -1, if it links to none.
type bucket struct {
	slots [slots]uint64
	link  int
}

// model is an index as the chapter tells it.
type model struct {
	n     int
	all   []bucket
	taken int
	won   int
	lost  int
}

func newModel(n, spare int) *model {
	m := &model{n: n, all: make([]bucket, n+spare)}
	for b := range m.all {
		m.all[b].link = -1
	}
	return m
}

func (m *model) chain(b int) []int {
	if b < 0 || b > len(m.all)-1 {
		return nil
	}
	if m.all[b].link < 0 {
		return []int{b}
	}
	return append([]int{b}, m.chain(m.all[b].link)...)
}

// at is a slot; nil, if there is none.
func (m *model) at(slot int) *uint64 {
	if slot < 0 || slot/8 > len(m.all)-1 || slot%8 == 7 {
		return nil
	}
	return &m.all[slot/8].slots[slot%8]
}

func (m *model) load(slot int) uint64 {
	if w := m.at(slot); w != nil {
		return *w
	}
	return 0
}

func (m *model) look(h uint64) api.Look {
	tag, l := h/tagUnit, api.Look{Kind: grow}
	chain := m.chain(int(h % uint64(m.n)))
	l.Bucket = chain[len(chain)-1]
	for _, b := range slices.Backward(chain) {
		for k := slots - 1; k >= 0; k-- {
			w := m.all[b].slots[k]
			if w == 0 && l.Kind != found {
				l.Kind, l.Slot = free, 8*b+k
			}
			if w != 0 && w/addrs%tags == tag {
				l.Kind, l.Slot, l.Word = found, 8*b+k, w
			}
		}
	}
	return l
}

// try is one of a word.
func (m *model) try(at *uint64, old, now uint64) (bool, api.Errno) {
	if *at != old {
		m.lost++
		return false, ok
	}
	*at = now
	m.won++
	return true, ok
}

func (m *model) claim(slot int, h uint64) (bool, api.Errno) {
	if m.at(slot) == nil {
		return false, errArg
	}
	return m.try(m.at(slot), 0, fresh(h/tagUnit))
}

func (m *model) turn(slot int, old, addr uint64) (bool, api.Errno) {
	if m.at(slot) == nil {
		return false, errArg
	}
	tag, at, newly := old/addrs%tags, old%addrs, old/isFresh%2 == 1
	switch {
	case old == 0:
		return false, errNone
	case old < isTaken, newly && at > 0, !newly && at == 0:
		return false, errForm
	case addr < 1, addr >= addrs:
		return false, errArg
	}
	return m.try(m.at(slot), old, points(tag, addr))
}

func (m *model) spare() (int, api.Errno) {
	if m.n+m.taken == len(m.all) {
		return 0, errFull
	}
	m.taken++
	return m.n + m.taken - 1, ok
}

func (m *model) link(b, spare int) (bool, api.Errno) {
	if b < 0 || b > len(m.all)-1 || spare < m.n || spare > m.n+m.taken-1 {
		return false, errArg
	}
	for _, other := range m.all {
		if other.link == spare {
			return false, errArg
		}
	}
	for _, behind := range m.chain(spare) {
		if behind == b {
			return false, errArg
		}
	}
	if m.all[b].link >= 0 {
		m.lost++
		return false, ok
	}
	m.all[b].link = spare
	m.won++
	return true, ok
}

func (m *model) entries() []uint64 {
	var l []uint64
	for b := range m.n {
		l = append(l, m.chainEntries(b)...)
	}
	return l
}

func (m *model) chainEntries(b int) []uint64 {
	var l []uint64
	for _, c := range m.chain(b) {
		for _, w := range m.all[c].slots {
			if w != 0 {
				l = append(l, w)
			}
		}
	}
	return l
}

func (m *model) words() []uint64 {
	l := []uint64{uint64(m.taken)}
	for _, b := range m.all {
		l = append(append(l, b.slots[:]...), uint64(b.link+1))
	}
	return l
}

func (m *model) fill(l []uint64) api.Errno {
	if len(l) != 1+8*len(m.all) || l[0] > uint64(len(m.all)-m.n) {
		return errForm
	}
	m.taken = int(l[0])
	for b := range m.all {
		copy(m.all[b].slots[:], l[1+8*b:])
		m.all[b].link = int(l[1+8*b+7]) - 1
	}
	return ok
}

// drop builds another index, chain by chain.
func (m *model) drop() int {
	next := newModel(m.n, len(m.all)-m.n)
	gone := 0
	for b := range m.n {
		at, k := b, 0
		for _, w := range m.chainEntries(b) {
			if w/isFresh%2 == 1 {
				gone++
				continue
			}
			if k == slots {
				behind := next.n + next.taken
				next.all[at].link = behind
				next.taken++
				at, k = behind, 0
			}
			next.all[at].slots[k] = w
			k++
		}
	}
	m.all, m.taken = next.all, next.taken
	return gone
}

// run is an index and its model, which go side by side.
type run struct {
	t *testing.T
	x *index.Index
	m *model
}

// made is a new one that must be there.
func made(t *testing.T, n, spare int) *run {
	t.Helper()
	x, e := index.New(n, spare)
	if x == nil || e != ok {
		t.Fatalf("New(%d, %d) tells %v, %d", n, spare, x, e)
	}
	return &run{t: t, x: x, m: newModel(n, spare)}
}

// look: both tell the same, which is told.
func (r *run) look(h uint64) api.Look {
	r.t.Helper()
	l, e := r.x.Look(h)
	if want := r.m.look(h); l != want || e != ok {
		r.t.Fatalf("Look(%x) tells %+v, %d, not %+v", h, l, e, want)
	}
	return l
}

// tried: a try, or an error, as the model tells it, and as it is thought to be.
func (r *run) tried(what string, won bool, e api.Errno, mwon bool, me api.Errno, win bool, want api.Errno) {
	r.t.Helper()
	if won != mwon || e != me {
		r.t.Fatalf("%s tells %v, %d, not %v, %d", what, won, e, mwon, me)
	}
	if won != win || e != want {
		r.t.Fatalf("%s tells %v, %d: it was thought to be %v, %d", what, won, e, win, want)
	}
}

func (r *run) claim(slot int, h uint64, win bool, want api.Errno) {
	r.t.Helper()
	won, e := r.x.Claim(slot, h)
	mwon, me := r.m.claim(slot, h)
	r.tried(told("Claim", slot, h), won, e, mwon, me, win, want)
}

func (r *run) turn(slot int, old, addr uint64, win bool, want api.Errno) {
	r.t.Helper()
	won, e := r.x.Turn(slot, old, addr)
	mwon, me := r.m.turn(slot, old, addr)
	r.tried(told("Turn", slot, old, addr), won, e, mwon, me, win, want)
}

func (r *run) link(b, spare int, win bool, want api.Errno) {
	r.t.Helper()
	won, e := r.x.Link(b, spare)
	mwon, me := r.m.link(b, spare)
	r.tried(told("Link", b, spare), won, e, mwon, me, win, want)
}

func (r *run) spare(want int, wantE api.Errno) {
	r.t.Helper()
	n, e := r.x.Spare()
	mn, me := r.m.spare()
	if n != mn || e != me || n != want || e != wantE {
		r.t.Fatalf("Spare tells %d, %d, the model %d, %d: it was thought to be %d, %d", n, e, mn, me, want, wantE)
	}
}

func (r *run) fill(l []uint64, want api.Errno) {
	r.t.Helper()
	was := slices.Clone(l)
	e, me := r.x.Fill(l), r.m.fill(l)
	if e != me || e != want {
		r.t.Fatalf("Fill tells %d, the model %d: it was thought to be %d", e, me, want)
	}
	if !slices.Equal(l, was) {
		r.t.Fatal("Fill changed what it was handed")
	}
}

func (r *run) drop(want int) {
	r.t.Helper()
	n, mn := r.x.Drop(), r.m.drop()
	if n != mn || n != want {
		r.t.Fatalf("Drop tells %d, the model %d: it was thought to be %d", n, mn, want)
	}
}

// put claims a slot for a tag as Look tells, with a spare bucket where one is asked for; fresh, or pointing at an address.
func (r *run) put(h, addr uint64) int {
	r.t.Helper()
	l := r.look(h)
	if l.Kind == grow {
		s := r.m.n + r.m.taken
		r.spare(s, ok)
		r.link(l.Bucket, s, true, ok)
		l = r.look(h)
	}
	if l.Kind != free {
		r.t.Fatalf("there is no free slot for %x: %+v", h, l)
	}
	r.claim(l.Slot, h, true, ok)
	if addr > 0 {
		r.turn(l.Slot, r.x.Load(l.Slot), addr, true, ok)
	}
	return l.Slot
}

// full puts so many tags, from one on, into the chain of a bucket; those that fits tells point nowhere.
func (r *run) full(b int, from, to uint64, nowhere func(tag uint64) bool) {
	r.t.Helper()
	for tag := from; tag < to; tag++ {
		addr := tag + 100
		if nowhere(tag) {
			addr = 0
		}
		r.put(number(tag, b), addr)
	}
}

func all(uint64) bool  { return true }
func none(uint64) bool { return false }

// near are numbers round all cells, and at the ends of all numbers.
func (r *run) near() []int {
	l := []int{math.MinInt, math.MinInt + 1, math.MinInt32, -1 << 32, -9, -8, -7, -2}
	for i := -1; i <= 8*len(r.m.all)+9; i++ {
		l = append(l, i)
	}
	return append(l, 1<<32, 1<<32+1, 1<<61, 1<<61+1, 1<<62, math.MaxInt-8, math.MaxInt-1, math.MaxInt)
}

// stands: the index is as the model, whoever tells it, twice, since to tell changes nothing.
func (r *run) stands() {
	r.t.Helper()
	for range 2 {
		r.words()
		for _, i := range r.near() {
			if g, want := r.x.Load(i), r.m.load(i); g != want {
				r.t.Fatalf("Load(%d) is %x, not %x", i, g, want)
			}
			if g, want := r.x.Chain(i), r.m.chain(i); !slices.Equal(g, want) {
				r.t.Fatalf("Chain(%d) is %v, not %v", i, g, want)
			}
		}
		for b := range r.m.n {
			for _, tag := range []uint64{0, 1, 2, 3, 5, 6, 7, 8, 100, tags - 1} {
				r.look(number(tag, b))
				r.look(number(tag, b) + tagUnit - 1024)
			}
			for _, w := range r.m.chainEntries(b) {
				r.look(number(w/addrs%tags, b))
			}
		}
	}
}

// words: the lists that tell of all are the model's, and so are the counts.
func (r *run) words() {
	r.t.Helper()
	if g, want := r.x.Words(), r.m.words(); !slices.Equal(g, want) {
		r.t.Fatalf("Words are %x, not %x", g, want)
	}
	if g, want := r.x.Entries(), r.m.entries(); !slices.Equal(g, want) {
		r.t.Fatalf("Entries are %x, not %x", g, want)
	}
	if won, lost := r.x.Counts(); won != r.m.won || lost != r.m.lost {
		r.t.Fatalf("Counts are %d and %d, not %d and %d", won, lost, r.m.won, r.m.lost)
	}
}

// parted: no tag stands twice in a chain, and free slots stand behind all others.
func (r *run) parted() {
	r.t.Helper()
	for b := range r.m.n {
		seen := map[uint64]bool{}
		open := false
		for _, c := range r.x.Chain(b) {
			for k := range slots {
				w := r.x.Load(8*c + k)
				if w == 0 {
					open = true
					continue
				}
				if tag := w / addrs % tags; seen[tag] || open {
					r.t.Fatalf("bucket %d, slot %d of %d: the tag %d stands there twice (%v), or behind a free slot (%v)", b, k, c, tag, seen[tag], open)
				}
				seen[w/addrs%tags] = true
			}
		}
	}
}
