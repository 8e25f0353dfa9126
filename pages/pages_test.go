package pages_test

import (
	"fmt"
	"math"
	"math/rand"
	"slices"
	"strings"
	"testing"

	"haycroft/api"
	"haycroft/pages"
)

// The bounds of the chapters as numbers, written out, so that nothing here leans on the program's own ones.
const (
	leastBits   = 5
	mostBits    = 9
	leastFrames = 2
	mostFrames  = 8
	addrBits    = 48
	lastAddr    = 1<<addrBits - 1
	allOnes     = 1<<64 - 1
)

// words of all kinds: with the lowest and the highest bit, none and all.
var words = []uint64{0, 1, 1 << 63, allOnes, 0x0123456789abcdef}

// model is a buffer as the chapter tells it: the pages that are in, with their words.
type model struct {
	bits   int
	frames int
	in     map[int][]uint64
}

func newModel(bits, frames int) *model {
	return &model{bits: bits, frames: frames, in: map[int][]uint64{}}
}

func (m *model) size() int {
	n := 1
	for range m.bits {
		n *= 2
	}
	return n
}

func (m *model) open(page int) api.Errno {
	if page < 0 {
		return api.ErrArg
	}
	if _, ok := m.in[page]; ok {
		return api.ErrThere
	}
	for p := range m.in {
		if p%m.frames == page%m.frames {
			return api.ErrBusy
		}
	}
	m.in[page] = make([]uint64, m.size())
	return api.OK
}

func (m *model) close(page int) api.Errno {
	if _, ok := m.in[page]; !ok {
		return api.ErrNone
	}
	delete(m.in, page)
	return api.OK
}

func (m *model) told() []int {
	var l []int
	for p := range m.in {
		l = append(l, p)
	}
	slices.Sort(l)
	return l
}

// rest is the words from an address on to its page's end; nothing, if it isn't in.
func (m *model) rest(a uint64) []uint64 {
	if a > lastAddr {
		return nil
	}
	l, ok := m.in[int(a/uint64(m.size()))]
	if !ok {
		return nil
	}
	return l[a%uint64(m.size()):]
}

func (m *model) load(a uint64) (uint64, api.Errno) {
	l := m.rest(a)
	if l == nil {
		return 0, api.ErrNone
	}
	return l[0], api.OK
}

func (m *model) store(a, w uint64) api.Errno {
	l := m.rest(a)
	if l == nil {
		return api.ErrNone
	}
	l[0] = w
	return api.OK
}

func (m *model) cas(a, old, now uint64) (bool, api.Errno) {
	l := m.rest(a)
	if l == nil {
		return false, api.ErrNone
	}
	if l[0] != old {
		return false, api.OK
	}
	l[0] = now
	return true, api.OK
}

func (m *model) words(a uint64, n int) ([]uint64, api.Errno) {
	l := m.rest(a)
	if l == nil {
		return nil, api.ErrNone
	}
	if n < 1 || n > len(l) {
		return nil, api.ErrArg
	}
	return l[:n], api.OK
}

func (m *model) fill(a uint64, from []uint64) api.Errno {
	l, e := m.words(a, len(from))
	copy(l, from)
	return e
}

func (m *model) view() string {
	var s strings.Builder
	fmt.Fprint(&s, m.bits, m.frames, m.told())
	for _, p := range m.told() {
		fmt.Fprint(&s, " ", p, true, m.in[p])
	}
	return s.String()
}

// view is all that a buffer tells without being changed.
func view(t *testing.T, b *pages.Buffer) string {
	t.Helper()
	var s strings.Builder
	in := b.In()
	fmt.Fprint(&s, b.Bits(), b.Frames(), in)
	for _, p := range in {
		l, e := b.Page(p)
		if e != api.OK {
			t.Fatalf("Page(%d), which is in, tells %d", p, e)
		}
		fmt.Fprint(&s, " ", p, b.Has(p), l)
	}
	return s.String()
}

func made(t *testing.T, bits, frames int) *pages.Buffer {
	t.Helper()
	b, e := pages.New(bits, frames)
	if b == nil || e != api.OK {
		t.Fatalf("New(%d, %d) is %v, %d", bits, frames, b, e)
	}
	return b
}

// opened is a buffer with pages that are in.
func opened(t *testing.T, bits, frames int, in ...int) *pages.Buffer {
	t.Helper()
	b := made(t, bits, frames)
	for _, p := range in {
		open(t, b, p)
	}
	return b
}

func open(t *testing.T, b *pages.Buffer, page int) {
	t.Helper()
	if e := b.Open(page); e != api.OK {
		t.Fatalf("Open(%d) tells %d", page, e)
	}
}

func shut(t *testing.T, b *pages.Buffer, page int) {
	t.Helper()
	if e := b.Close(page); e != api.OK {
		t.Fatalf("Close(%d) tells %d", page, e)
	}
}

func store(t *testing.T, b *pages.Buffer, a, w uint64) {
	t.Helper()
	if e := b.Store(a, w); e != api.OK {
		t.Fatalf("Store(%d, %d) tells %d", a, w, e)
	}
}

func fill(t *testing.T, b *pages.Buffer, a uint64, l []uint64) {
	t.Helper()
	if e := b.Fill(a, l); e != api.OK {
		t.Fatalf("Fill(%d) of %d words tells %d", a, len(l), e)
	}
}

func loads(t *testing.T, b *pages.Buffer, a, want uint64) {
	t.Helper()
	if w, e := b.Load(a); w != want || e != api.OK {
		t.Fatalf("Load(%d) is %d, %d, not %d, 0", a, w, e, want)
	}
}

func hasWords(t *testing.T, b *pages.Buffer, a uint64, want []uint64) {
	t.Helper()
	if l, e := b.Words(a, len(want)); !slices.Equal(l, want) || e != api.OK {
		t.Fatalf("Words(%d, %d) is %v, %d, not %v, 0", a, len(want), l, e, want)
	}
}

func hasPage(t *testing.T, b *pages.Buffer, page int, want []uint64) {
	t.Helper()
	if l, e := b.Page(page); !slices.Equal(l, want) || e != api.OK {
		t.Fatalf("Page(%d) is %v, %d, not %v, 0", page, l, e, want)
	}
}

func isIn(t *testing.T, b *pages.Buffer, want ...int) {
	t.Helper()
	if l := b.In(); !slices.Equal(l, want) {
		t.Fatalf("In is %v, not %v", l, want)
	}
	for _, p := range want {
		if !b.Has(p) {
			t.Fatalf("Has(%d) is false, and it is in", p)
		}
	}
}

// refused: the call tells the error, nothing beside it, and changes nothing that is told.
func refused(t *testing.T, b *pages.Buffer, want api.Errno, what string, call func() (bool, api.Errno)) {
	t.Helper()
	was := view(t, b)
	if zero, e := call(); !zero || e != want {
		t.Fatalf("%s tells %d (nothing beside it: %v), not %d", what, e, zero, want)
	}
	if g := view(t, b); g != was {
		t.Fatalf("%s, refused, makes %s from %s", what, g, was)
	}
}

func noOpen(t *testing.T, b *pages.Buffer, want api.Errno, page int) {
	t.Helper()
	refused(t, b, want, fmt.Sprintf("Open(%d)", page), func() (bool, api.Errno) { return true, b.Open(page) })
}

// noPage: what is asked of a page that isn't in.
func noPage(t *testing.T, b *pages.Buffer, page int) {
	t.Helper()
	refused(t, b, api.ErrNone, fmt.Sprintf("Close(%d)", page), func() (bool, api.Errno) { return true, b.Close(page) })
	refused(t, b, api.ErrNone, fmt.Sprintf("Page(%d)", page), func() (bool, api.Errno) {
		l, e := b.Page(page)
		return len(l) == 0, e
	})
	if b.Has(page) {
		t.Fatalf("Has(%d) is true, and it isn't in", page)
	}
}

func noWords(t *testing.T, b *pages.Buffer, want api.Errno, a uint64, n int) {
	t.Helper()
	refused(t, b, want, fmt.Sprintf("Words(%d, %d)", a, n), func() (bool, api.Errno) {
		l, e := b.Words(a, n)
		return len(l) == 0, e
	})
}

func noFill(t *testing.T, b *pages.Buffer, want api.Errno, a uint64, l []uint64) {
	t.Helper()
	refused(t, b, want, fmt.Sprintf("Fill(%d) of %d words", a, len(l)), func() (bool, api.Errno) { return true, b.Fill(a, l) })
}

// noAddr: what is asked of an address that isn't in, whatever beside it.
func noAddr(t *testing.T, b *pages.Buffer, a uint64) {
	t.Helper()
	refused(t, b, api.ErrNone, fmt.Sprintf("Load(%d)", a), func() (bool, api.Errno) {
		w, e := b.Load(a)
		return w == 0, e
	})
	for _, w := range words {
		refused(t, b, api.ErrNone, fmt.Sprintf("Store(%d, %d)", a, w), func() (bool, api.Errno) { return true, b.Store(a, w) })
		for _, old := range words {
			refused(t, b, api.ErrNone, fmt.Sprintf("CAS(%d, %d, %d)", a, old, w), func() (bool, api.Errno) {
				won, e := b.CAS(a, old, w)
				return !won, e
			})
		}
	}
	for _, n := range []int{math.MinInt, -1, 0, 1, 2, 32, 33, 512, 513, math.MaxInt} {
		noWords(t, b, api.ErrNone, a, n)
	}
	for _, l := range [][]uint64{nil, {}, {1}, make([]uint64, 33), slices.Repeat([]uint64{7}, 513)} {
		noFill(t, b, api.ErrNone, a, l)
	}
}

// rising is n words that are all of another kind than 0, and of each other.
func rising(n int, from uint64) []uint64 {
	l := make([]uint64, n)
	for i := range l {
		l[i] = from + uint64(i)
	}
	return l
}

func size(bits int) int {
	return map[int]int{5: 32, 6: 64, 7: 128, 8: 256, 9: 512}[bits]
}

// P12.1

func TestNew(t *testing.T) {
	for bits := -2; bits <= 66; bits++ {
		for frames := -2; frames <= 20; frames++ {
			b, e := pages.New(bits, frames)
			if bits < leastBits || bits > mostBits || frames < leastFrames || frames > mostFrames {
				if b != nil || e != api.ErrArg {
					t.Fatalf("New(%d, %d) is %v, %d, not nothing, %d", bits, frames, b, e, api.ErrArg)
				}
				continue
			}
			if b == nil || e != api.OK || b.Bits() != bits || b.Frames() != frames {
				t.Fatalf("New(%d, %d) is %v, %d", bits, frames, b, e)
			}
			isIn(t, b)
		}
	}
	for _, far := range []int{math.MinInt, math.MaxInt, math.MinInt32, math.MaxInt32, 5 + 1<<32, 2 + 1<<32} {
		for _, x := range [][2]int{{far, leastFrames}, {leastBits, far}, {far, far}, {far, 0}, {0, far}} {
			if b, e := pages.New(x[0], x[1]); b != nil || e != api.ErrArg {
				t.Fatalf("New(%d, %d) is %v, %d, not nothing, %d", x[0], x[1], b, e, api.ErrArg)
			}
		}
	}
}

func TestNoPageAtFirst(t *testing.T) {
	for frames := leastFrames; frames <= mostFrames; frames++ {
		b := made(t, leastBits, frames)
		isIn(t, b)
		for _, p := range []int{math.MinInt, -9, -8, -2, -1, 0, 1, 2, 7, 8, 9, 1<<43 - 1, 1 << 43, math.MaxInt} {
			noPage(t, b, p)
		}
		noAddr(t, b, 0)
		noAddr(t, b, lastAddr)
	}
}

func TestExample(t *testing.T) {
	b := made(t, 5, 2)
	open(t, b, 0)
	open(t, b, 1)
	noOpen(t, b, api.ErrBusy, 2)
	shut(t, b, 0)
	open(t, b, 2)
	isIn(t, b, 1, 2)
}

func TestOpenOfAllSizes(t *testing.T) {
	for bits := leastBits; bits <= mostBits; bits++ {
		for frames := leastFrames; frames <= mostFrames; frames++ {
			b := made(t, bits, frames)
			for p := range frames {
				open(t, b, p)
				hasPage(t, b, p, make([]uint64, size(bits)))
				isIn(t, b, rangeOf(0, p+1)...)
				if p+1 < frames {
					noPage(t, b, p+1)
				}
			}
			for p := frames; p < 3*frames; p++ {
				noOpen(t, b, api.ErrBusy, p)
				noPage(t, b, p)
			}
		}
	}
}

func rangeOf(from, to int) []int {
	var l []int
	for p := from; p < to; p++ {
		l = append(l, p)
	}
	return l
}

// A frame has one page at most: of any two pages the second one is let in just if their frames are not one.
func TestPagesThatShareAFrame(t *testing.T) {
	for frames := leastFrames; frames <= mostFrames; frames++ {
		for p := range 2*frames + 2 {
			for q := range 2*frames + 2 {
				b := opened(t, leastBits, frames, p)
				switch {
				case p == q:
					noOpen(t, b, api.ErrThere, q)
				case p%frames == q%frames:
					noOpen(t, b, api.ErrBusy, q)
					noPage(t, b, q)
					isIn(t, b, p)
				default:
					noPage(t, b, q)
					open(t, b, q)
					isIn(t, b, min(p, q), max(p, q))
				}
			}
		}
	}
}

func TestPagesBelowNought(t *testing.T) {
	for frames := leastFrames; frames <= mostFrames; frames++ {
		for _, in := range [][]int{nil, {0}, {1}, rangeOf(0, frames)} {
			b := opened(t, leastBits, frames, in...)
			for _, p := range []int{-1, -2, -3, -frames, -frames - 1, -16, math.MinInt32, math.MinInt + 1, math.MinInt} {
				noOpen(t, b, api.ErrArg, p)
				noPage(t, b, p)
			}
			isIn(t, b, in...)
		}
	}
}

// A page that no address tells is a page all the same.
func TestGreatPages(t *testing.T) {
	for bits := leastBits; bits <= mostBits; bits++ {
		last := 1<<(addrBits-bits) - 1
		for _, p := range []int{last - 1, last, last + 1, math.MaxInt32, 1<<48 - 1, 1 << 48, math.MaxInt - 1, math.MaxInt} {
			b := opened(t, bits, 3, p)
			isIn(t, b, p)
			hasPage(t, b, p, make([]uint64, size(bits)))
			noOpen(t, b, api.ErrThere, p)
			noOpen(t, b, api.ErrBusy, p-3)
			noOpen(t, b, api.ErrBusy, p%3)
			noPage(t, b, p%3)
			noPage(t, b, p-1)
			open(t, b, p-1)
			isIn(t, b, p-1, p)
			shut(t, b, p)
			noPage(t, b, p)
			isIn(t, b, p-1)
		}
	}
}

func TestPageBehindTheLastAddress(t *testing.T) {
	for bits := leastBits; bits <= mostBits; bits++ {
		behind := 1 << (addrBits - bits)
		n := uint64(size(bits))
		b := opened(t, bits, 3, behind)
		for _, a := range []uint64{0, 1, n - 1, lastAddr, lastAddr + 1, lastAddr + n, lastAddr + 2*n} {
			noAddr(t, b, a)
		}
		hasPage(t, b, behind, make([]uint64, n))
		shut(t, b, behind)
		open(t, b, behind-1)
		store(t, b, lastAddr, 7)
		loads(t, b, lastAddr, 7)
		noAddr(t, b, lastAddr+1)
	}
}

func TestOpenAndCloseTwice(t *testing.T) {
	b := opened(t, 5, 4, 6)
	store(t, b, 6*32+3, 9)
	noOpen(t, b, api.ErrThere, 6)
	noOpen(t, b, api.ErrThere, 6)
	loads(t, b, 6*32+3, 9)
	shut(t, b, 6)
	isIn(t, b)
	noPage(t, b, 6)
	noPage(t, b, 6)
	noAddr(t, b, 6*32+3)
	open(t, b, 6)
	isIn(t, b, 6)
	loads(t, b, 6*32+3, 0)
}

// Who is refused for another page finds the frame as it was; who closes the wrong page of a frame, too.
func TestCloseOfAnotherPageOfTheFrame(t *testing.T) {
	b := opened(t, 5, 2, 3)
	store(t, b, 3*32, 5)
	for _, p := range []int{1, 5, 7, 2, 0, -1, -3} {
		noPage(t, b, p)
	}
	isIn(t, b, 3)
	loads(t, b, 3*32, 5)
}

func TestInRises(t *testing.T) {
	for frames := leastFrames; frames <= mostFrames; frames++ {
		for at := range frames {
			b := opened(t, leastBits, frames, at+frames)
			isIn(t, b, at+frames)
		}
		// The frames go round: from any of them on, the pages of all stand in another order than the frames.
		for from := range 2 * frames {
			all := rangeOf(from, from+frames)
			b := made(t, leastBits, frames)
			for i := range all {
				open(t, b, all[len(all)-1-i])
			}
			isIn(t, b, all...)
			for i := range all {
				shut(t, b, all[i])
				isIn(t, b, all[i+1:]...)
			}
		}
	}
	b := opened(t, 6, 8, 803, 44, 1600, 7, 90, 17)
	isIn(t, b, 7, 17, 44, 90, 803, 1600)
}

// All orders of opening five pages for three frames.
func TestOpenInAllOrders(t *testing.T) {
	for _, order := range orders([]int{0, 1, 2, 3, 4}) {
		b := made(t, 5, 3)
		m := newModel(5, 3)
		for _, p := range order {
			if e, want := b.Open(p), m.open(p); e != want {
				t.Fatalf("%v: Open(%d) tells %d, not %d", order, p, e, want)
			}
			if g, want := view(t, b), m.view(); g != want {
				t.Fatalf("%v: %s, not %s", order, g, want)
			}
		}
	}
}

func orders(l []int) [][]int {
	if len(l) == 0 {
		return [][]int{nil}
	}
	var all [][]int
	for i, p := range l {
		rest := slices.Concat(l[:i], l[i+1:])
		for _, o := range orders(rest) {
			all = append(all, append([]int{p}, o...))
		}
	}
	return all
}

// P12.2

func TestWordsOfAllKinds(t *testing.T) {
	b := opened(t, 5, 2, 0, 3)
	for _, a := range []uint64{0, 1, 30, 31, 3 * 32, 3*32 + 1, 3*32 + 31} {
		loads(t, b, a, 0)
		for _, w := range words {
			store(t, b, a, w)
			loads(t, b, a, w)
		}
	}
	for _, a := range []uint64{32, 63, 2 * 32, 3*32 - 1, 4 * 32} {
		noAddr(t, b, a)
	}
}

// Each word has a place of its own: what is stored at one is told at no other.
func TestEachAddressIsAWordOfItsOwn(t *testing.T) {
	for bits := leastBits; bits <= mostBits; bits++ {
		n := uint64(size(bits))
		b := opened(t, bits, 3, 0, 1, 5)
		for a := range 2 * n {
			store(t, b, a, 1000+a)
		}
		for a := 5 * n; a < 6*n; a++ {
			store(t, b, a, 1000+a)
		}
		hasPage(t, b, 0, rising(int(n), 1000))
		hasPage(t, b, 1, rising(int(n), 1000+n))
		hasPage(t, b, 5, rising(int(n), 1000+5*n))
		for a := range 6 * n {
			if a < 2*n || a >= 5*n {
				loads(t, b, a, 1000+a)
			} else if _, e := b.Load(a); e != api.ErrNone {
				t.Fatalf("Load(%d) tells %d", a, e)
			}
		}
	}
}

func TestEndsOfAPage(t *testing.T) {
	for bits := leastBits; bits <= mostBits; bits++ {
		n := uint64(size(bits))
		b := opened(t, bits, 2, 3)
		noAddr(t, b, 3*n-1)
		loads(t, b, 3*n, 0)
		store(t, b, 3*n, 4)
		store(t, b, 4*n-1, 5)
		noAddr(t, b, 4*n)
		want := make([]uint64, n)
		want[0], want[n-1] = 4, 5
		hasPage(t, b, 3, want)
		// The frame is that of page 1, too: the words of page 3 are not its own.
		noAddr(t, b, n)
		noAddr(t, b, 2*n-1)
	}
}

func TestTheLastPageOfAddresses(t *testing.T) {
	for bits := leastBits; bits <= mostBits; bits++ {
		n := uint64(size(bits))
		last := 1<<(addrBits-bits) - 1
		b := opened(t, bits, 2, last, 0)
		fill(t, b, lastAddr+1-n, rising(int(n), 70))
		loads(t, b, lastAddr, 70+n-1)
		store(t, b, lastAddr, 8)
		if won, e := b.CAS(lastAddr, 8, 9); !won || e != api.OK {
			t.Fatal(won, e)
		}
		hasWords(t, b, lastAddr, []uint64{9})
		hasWords(t, b, lastAddr-1, []uint64{70 + n - 2, 9})
		noWords(t, b, api.ErrArg, lastAddr, 2)
		noFill(t, b, api.ErrArg, lastAddr, []uint64{1, 2})
		// All of these have the lowest bits of words that are in.
		for _, a := range []uint64{lastAddr + 1, lastAddr + 2, lastAddr + n, lastAddr + 1 + n, 2*lastAddr + 1, 1 << 49, 1 << 62, 1<<63 - 1, 1 << 63, 1<<63 + 1, 1<<63 + lastAddr, allOnes - n, allOnes - 1, allOnes} {
			noAddr(t, b, a)
		}
	}
}

func TestCAS(t *testing.T) {
	b := opened(t, 5, 2, 2)
	try := func(a, old, now uint64, want bool, has uint64) {
		t.Helper()
		if won, e := b.CAS(a, old, now); won != want || e != api.OK {
			t.Fatalf("CAS(%d, %d, %d) is %v, %d, not %v, 0", a, old, now, won, e, want)
		}
		loads(t, b, a, has)
	}
	for _, a := range []uint64{64, 65, 95} {
		try(a, 1, 5, false, 0)
		try(a, 0, 5, true, 5)
		try(a, 0, 6, false, 5)
		try(a, 5, 5, true, 5)
		try(a, 5, allOnes, true, allOnes)
		try(a, 5, 1, false, allOnes)
		try(a, 1<<63, 1, false, allOnes)
		try(a, allOnes, 1<<63, true, 1<<63)
		try(a, 0, 1, false, 1<<63)
		try(a, 1<<63, 0, true, 0)
	}
	hasPage(t, b, 2, make([]uint64, 32))
	for _, old := range words {
		for _, has := range words {
			for _, now := range words {
				store(t, b, 70, has)
				if old == has {
					try(70, old, now, true, now)
				} else {
					try(70, old, now, false, has)
				}
			}
		}
	}
}

// All starts and lengths of a page, some of them beyond its end, though the next page is in, too.
func TestWordsAndFillOfAllLengths(t *testing.T) {
	for _, bits := range []int{leastBits, leastBits + 1} {
		n := size(bits)
		b := opened(t, bits, 3, 1, 2, 3)
		for from := range n {
			a := uint64(n + n + from)
			for long := 0; long <= n+1; long++ {
				l := rising(long, uint64(1000*from+long+1))
				fill(t, b, uint64(2*n), rising(n, 1<<40))
				if long < 1 || from+long > n {
					noWords(t, b, api.ErrArg, a, long)
					noFill(t, b, api.ErrArg, a, l)
					hasPage(t, b, 2, rising(n, 1<<40))
					continue
				}
				fill(t, b, a, l)
				hasWords(t, b, a, l)
				want := rising(n, 1<<40)
				copy(want[from:], l)
				hasPage(t, b, 2, want)
			}
		}
		hasPage(t, b, 1, make([]uint64, n))
		hasPage(t, b, 3, make([]uint64, n))
	}
}

func TestWordsAndFillAtTheEdges(t *testing.T) {
	for bits := leastBits; bits <= mostBits; bits++ {
		n := size(bits)
		b := opened(t, bits, 2, 4, 5)
		first, last := uint64(4*n), uint64(5*n-1)
		fill(t, b, first, rising(n, 1))
		for _, a := range []uint64{first, first + 1, last - 1, last} {
			for _, long := range []int{math.MinInt, math.MinInt + 1, -1 << 32, -n, -2, -1, 0, n + 1, 2 * n, 1 << 32, 1<<32 + 1, 1 << 48, math.MaxInt - 1, math.MaxInt} {
				noWords(t, b, api.ErrArg, a, long)
			}
			noFill(t, b, api.ErrArg, a, nil)
			noFill(t, b, api.ErrArg, a, []uint64{})
			noFill(t, b, api.ErrArg, a, make([]uint64, n+1))
			noFill(t, b, api.ErrArg, a, make([]uint64, 2*n))
			loads(t, b, a, a-first+1)
			hasWords(t, b, a, []uint64{a - first + 1})
		}
		hasWords(t, b, first, rising(n, 1))
		noWords(t, b, api.ErrArg, first+1, n)
		noFill(t, b, api.ErrArg, first+1, make([]uint64, n))
		hasWords(t, b, first+1, rising(n-1, 2))
		noWords(t, b, api.ErrArg, last, 2)
		noFill(t, b, api.ErrArg, last, []uint64{8, 9})
		hasPage(t, b, 4, rising(n, 1))
		hasPage(t, b, 5, make([]uint64, n))
		fill(t, b, last, []uint64{77})
		loads(t, b, last, 77)
		fill(t, b, first, words)
		hasWords(t, b, first, words)
	}
}

func TestFillWritesNoughts(t *testing.T) {
	b := opened(t, 5, 2, 1)
	fill(t, b, 32, rising(32, 1))
	fill(t, b, 40, []uint64{0, 0})
	want := rising(32, 1)
	want[8], want[9] = 0, 0
	hasPage(t, b, 1, want)
	fill(t, b, 32, make([]uint64, 32))
	hasPage(t, b, 1, make([]uint64, 32))
}

// Which error comes first, where several hold.
func TestFirstErrors(t *testing.T) {
	b := opened(t, 5, 2, 0, 1)
	noOpen(t, b, api.ErrArg, -1)
	noOpen(t, b, api.ErrArg, -2)
	noOpen(t, b, api.ErrThere, 0)
	noOpen(t, b, api.ErrThere, 1)
	noOpen(t, b, api.ErrBusy, 2)
	long := make([]uint64, 33)
	for _, a := range []uint64{64, 96, 1<<43 + 64, lastAddr, lastAddr + 1, allOnes} {
		for _, n := range []int{-1, 0, 1, 33, math.MaxInt} {
			noWords(t, b, api.ErrNone, a, n)
		}
		noFill(t, b, api.ErrNone, a, nil)
		noFill(t, b, api.ErrNone, a, long)
	}
	for _, n := range []int{-1, 0, 33, math.MaxInt} {
		noWords(t, b, api.ErrArg, 0, n)
		noWords(t, b, api.ErrArg, 63, n)
	}
	noFill(t, b, api.ErrArg, 0, nil)
	noFill(t, b, api.ErrArg, 63, long)
}

// A page as another call tells it: word for word, and in one.
func TestCallsAgree(t *testing.T) {
	b := opened(t, 6, 4, 9)
	l := rising(64, 1<<63)
	fill(t, b, 9*64, l)
	hasPage(t, b, 9, l)
	hasWords(t, b, 9*64, l)
	for i, w := range l {
		loads(t, b, 9*64+uint64(i), w)
	}
}

// P12.3

func TestAPageOpenedAnewHasNoOldWord(t *testing.T) {
	for bits := leastBits; bits <= mostBits; bits++ {
		n := size(bits)
		for _, next := range []int{1, 4, 7, 301} {
			b := opened(t, bits, 3, 1)
			fill(t, b, uint64(n), slices.Repeat([]uint64{allOnes}, n))
			shut(t, b, 1)
			open(t, b, next)
			hasPage(t, b, next, make([]uint64, n))
			fill(t, b, uint64(next*n), slices.Repeat([]uint64{5}, n))
			shut(t, b, next)
			open(t, b, 1)
			hasPage(t, b, 1, make([]uint64, n))
			hasWords(t, b, uint64(n), make([]uint64, n))
			if won, e := b.CAS(uint64(n)+1, 0, 3); !won || e != api.OK {
				t.Fatal(won, e)
			}
		}
	}
}

func TestAPageKeepsItsWords(t *testing.T) {
	const n = 32
	b := opened(t, 5, 4, 2)
	l := rising(n, 500)
	fill(t, b, 2*n, l)
	keeps := func() {
		t.Helper()
		hasPage(t, b, 2, l)
	}
	for round := range 5 {
		for _, p := range []int{4 * round, 4*round + 1, 4*round + 3} {
			open(t, b, p)
			keeps()
			fill(t, b, uint64(p*n), slices.Repeat([]uint64{uint64(p + 1)}, n))
			store(t, b, uint64(p*n+n-1), allOnes)
			keeps()
		}
		for _, p := range []int{4*round + 3, 4*round + 1, 4 * round} {
			if won, e := b.CAS(uint64(p*n), uint64(p+1), 0); !won || e != api.OK {
				t.Fatal(won, e)
			}
			shut(t, b, p)
			keeps()
		}
		noOpen(t, b, api.ErrBusy, 4*round+6)
		keeps()
	}
	isIn(t, b, 2)
}

// Pages go round through the frames, as the log does it: there are never more in than frames.
func TestPagesGoRound(t *testing.T) {
	for frames := leastFrames; frames <= mostFrames; frames++ {
		b := made(t, leastBits, frames)
		for p := range 5 * frames {
			if p >= frames {
				noOpen(t, b, api.ErrBusy, p)
				hasPage(t, b, p-frames, slices.Repeat([]uint64{uint64(p - frames + 1)}, 32))
				shut(t, b, p-frames)
			}
			open(t, b, p)
			hasPage(t, b, p, make([]uint64, 32))
			fill(t, b, uint64(p*32), slices.Repeat([]uint64{uint64(p + 1)}, 32))
			isIn(t, b, rangeOf(max(0, p-frames+1), p+1)...)
		}
	}
}

func TestBuffersAreApart(t *testing.T) {
	b, c := opened(t, 5, 2, 1), opened(t, 5, 2, 1)
	fill(t, b, 32, rising(32, 1))
	hasPage(t, c, 1, make([]uint64, 32))
	shut(t, c, 1)
	open(t, c, 0)
	isIn(t, b, 1)
	hasPage(t, b, 1, rising(32, 1))
}

// The rules that hold everywhere

func TestWhatIsHandedOutIsTheCallersOwn(t *testing.T) {
	b := opened(t, 5, 3, 1, 2)
	fill(t, b, 32, rising(32, 1))
	was := view(t, b)
	spoil := func(l []uint64) {
		l = l[:cap(l)]
		for i := range l {
			l[i] = allOnes
		}
	}
	p, _ := b.Page(1)
	q, _ := b.Page(1)
	w, _ := b.Words(33, 5)
	x, _ := b.Words(33, 5)
	spoil(p)
	spoil(w)
	if !slices.Equal(q, rising(32, 1)) || !slices.Equal(x, rising(5, 2)) {
		t.Fatal("two answers share memory")
	}
	in, other := b.In(), b.In()
	in = in[:cap(in)]
	for i := range in {
		in[i] = -1
	}
	if !slices.Equal(other, []int{1, 2}) {
		t.Fatal("two lists of In share memory")
	}
	if g := view(t, b); g != was {
		t.Fatalf("%s, not %s", g, was)
	}
	store(t, b, 33, 99)
	if !slices.Equal(q, rising(32, 1)) || !slices.Equal(x, rising(5, 2)) {
		t.Fatal("an answer turns with the page")
	}
	shut(t, b, 1)
	open(t, b, 4)
	if !slices.Equal(q, rising(32, 1)) || !slices.Equal(other, []int{1, 2}) {
		t.Fatal("an answer turns with the frame")
	}
}

func TestWhatIsHandedInStays(t *testing.T) {
	b := opened(t, 5, 2, 1)
	room := rising(40, 100)
	l := room[3:9]
	for _, a := range []uint64{32, 40, 63, 64, allOnes} {
		b.Fill(a, l)
		if !slices.Equal(room, rising(40, 100)) {
			t.Fatalf("Fill(%d) writes to what it is handed: %v", a, room)
		}
	}
	hasWords(t, b, 40, rising(6, 103))
	store(t, b, 40, 7)
	fill(t, b, 41, []uint64{8, 9})
	if !slices.Equal(room, rising(40, 100)) {
		t.Fatalf("what was handed to Fill turns with the page: %v", room)
	}
	want := view(t, b)
	for i := range room {
		room[i] = allOnes
	}
	if g := view(t, b); g != want {
		t.Fatalf("the page turns with what was handed in: %s, not %s", g, want)
	}
}

// The spare room of what is handed in counts for nothing.
func TestSpareRoomIsNoWord(t *testing.T) {
	b := opened(t, 5, 2, 1)
	room := rising(64, 1)
	fill(t, b, 63, room[:1])
	loads(t, b, 63, 1)
	noFill(t, b, api.ErrArg, 63, room[:2])
	noFill(t, b, api.ErrArg, 32, room[:0])
	fill(t, b, 32, room[:32])
	hasPage(t, b, 1, rising(32, 1))
}

func TestNilBuffer(t *testing.T) {
	var b *pages.Buffer
	if b.Bits() != 0 || b.Frames() != 0 || len(b.In()) != 0 {
		t.Fatal(b.Bits(), b.Frames(), b.In())
	}
	for _, p := range []int{math.MinInt, -1, 0, 1, math.MaxInt} {
		if e := b.Open(p); e != api.ErrNil {
			t.Fatalf("Open(%d) tells %d", p, e)
		}
		if e := b.Close(p); e != api.ErrNil {
			t.Fatalf("Close(%d) tells %d", p, e)
		}
		if b.Has(p) {
			t.Fatalf("Has(%d)", p)
		}
		if l, e := b.Page(p); len(l) != 0 || e != api.ErrNil {
			t.Fatalf("Page(%d) is %v, %d", p, l, e)
		}
	}
	for _, a := range []uint64{0, 1, lastAddr, lastAddr + 1, 1 << 63, allOnes} {
		if w, e := b.Load(a); w != 0 || e != api.ErrNil {
			t.Fatalf("Load(%d) is %d, %d", a, w, e)
		}
		if e := b.Store(a, 1); e != api.ErrNil {
			t.Fatalf("Store(%d) tells %d", a, e)
		}
		if won, e := b.CAS(a, 0, 1); won || e != api.ErrNil {
			t.Fatalf("CAS(%d) is %v, %d", a, won, e)
		}
		for _, n := range []int{math.MinInt, -1, 0, 1, math.MaxInt} {
			if l, e := b.Words(a, n); len(l) != 0 || e != api.ErrNil {
				t.Fatalf("Words(%d, %d) is %v, %d", a, n, l, e)
			}
		}
		for _, l := range [][]uint64{nil, {}, {1}, make([]uint64, 600)} {
			if e := b.Fill(a, l); e != api.ErrNil {
				t.Fatalf("Fill(%d) of %d words tells %d", a, len(l), e)
			}
		}
	}
}

// Runs of calls by lot, held against the model.

// lot is a run: what is drawn, the buffer, and what it should be.
type lot struct {
	t *testing.T
	r *rand.Rand
	b *pages.Buffer
	m *model
}

func (x *lot) page() int {
	if x.r.Intn(20) == 0 {
		return []int{-1, -8, math.MinInt, math.MaxInt, 1<<(addrBits-x.m.bits) - 1, 1 << (addrBits - x.m.bits)}[x.r.Intn(6)]
	}
	return x.r.Intn(3 * x.m.frames)
}

func (x *lot) addr() uint64 {
	n := uint64(x.m.size())
	if x.r.Intn(12) == 0 {
		return []uint64{lastAddr - uint64(x.r.Intn(3)), lastAddr + 1 + uint64(x.r.Intn(int(n))), 1<<63 + uint64(x.r.Intn(int(n))), allOnes}[x.r.Intn(4)]
	}
	page := uint64(x.r.Intn(3 * x.m.frames))
	if in := x.m.told(); len(in) > 0 && x.r.Intn(4) > 0 {
		page = uint64(in[x.r.Intn(len(in))])
	}
	if page >= 1<<(addrBits-x.m.bits) {
		page = 0
	}
	return page*n + []uint64{0, 1, n - 1, uint64(x.r.Intn(int(n)))}[x.r.Intn(4)]
}

func (x *lot) long() int {
	if x.r.Intn(10) == 0 {
		return []int{-1, 0, math.MinInt, math.MaxInt, x.m.size(), x.m.size() + 1}[x.r.Intn(6)]
	}
	return x.r.Intn(x.m.size() / 2)
}

func (x *lot) word() uint64 {
	return words[x.r.Intn(len(words))]
}

func (x *lot) is(what string, got, want any) {
	x.t.Helper()
	if g, w := fmt.Sprint(got), fmt.Sprint(want); g != w {
		x.t.Fatalf("%s is %s, not %s (%s)", what, g, w, x.m.view())
	}
}

func (x *lot) step() {
	a, p := x.addr(), x.page()
	switch x.r.Intn(9) {
	case 0, 1:
		x.is(fmt.Sprintf("Open(%d)", p), x.b.Open(p), x.m.open(p))
	case 2:
		x.is(fmt.Sprintf("Close(%d)", p), x.b.Close(p), x.m.close(p))
	case 3:
		g, ge := x.b.Load(a)
		w, we := x.m.load(a)
		x.is(fmt.Sprintf("Load(%d)", a), []any{g, ge}, []any{w, we})
	case 4:
		w := x.word()
		x.is(fmt.Sprintf("Store(%d, %d)", a, w), x.b.Store(a, w), x.m.store(a, w))
	case 5:
		old, now := x.word(), x.word()
		g, ge := x.b.CAS(a, old, now)
		w, we := x.m.cas(a, old, now)
		x.is(fmt.Sprintf("CAS(%d, %d, %d)", a, old, now), []any{g, ge}, []any{w, we})
	case 6:
		n := x.long()
		g, ge := x.b.Words(a, n)
		w, we := x.m.words(a, n)
		x.is(fmt.Sprintf("Words(%d, %d)", a, n), []any{g, ge}, []any{w, we})
	case 7:
		l := make([]uint64, max(0, min(x.long(), 600)))
		for i := range l {
			l[i] = x.r.Uint64()
		}
		x.is(fmt.Sprintf("Fill(%d) of %d", a, len(l)), x.b.Fill(a, l), x.m.fill(a, l))
	default:
		_, there := x.m.in[p]
		x.is(fmt.Sprintf("Has(%d)", p), x.b.Has(p), there)
		g, ge := x.b.Page(p)
		if there {
			x.is(fmt.Sprintf("Page(%d)", p), []any{g, ge}, []any{x.m.in[p], api.OK})
		} else {
			x.is(fmt.Sprintf("Page(%d)", p), []any{len(g), ge}, []any{0, api.ErrNone})
		}
	}
}

func TestRunsByLot(t *testing.T) {
	for seed := range 60 {
		r := rand.New(rand.NewSource(int64(seed)))
		bits := leastBits + r.Intn(mostBits-leastBits+1)
		frames := leastFrames + r.Intn(mostFrames-leastFrames+1)
		x := &lot{t: t, r: r, b: made(t, bits, frames), m: newModel(bits, frames)}
		for i := range 1500 {
			x.step()
			if n := len(x.b.In()); n > frames {
				t.Fatalf("%d pages are in, of %d frames", n, frames)
			}
			if i%20 == 0 {
				x.is("what is told", view(t, x.b), x.m.view())
			}
		}
	}
}

// The same calls tell the same.
func TestTheSameCallsTellTheSame(t *testing.T) {
	run := func() string {
		r := rand.New(rand.NewSource(3))
		x := &lot{t: t, r: r, b: made(t, 5, 8), m: newModel(5, 8)}
		var s strings.Builder
		for range 400 {
			x.step()
			fmt.Fprint(&s, x.b.In())
		}
		return s.String() + view(t, x.b)
	}
	if run() != run() {
		t.Fatal("two runs of the same calls differ")
	}
}
