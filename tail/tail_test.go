package tail_test

import (
	"fmt"
	"math"
	"math/rand"
	"runtime"
	"slices"
	"sync"
	"testing"

	"haycroft/api"
	"haycroft/tail"
)

// The bounds, the kinds of room and the errors as numbers, written out, so that nothing here leans on the program's own ones.
const (
	leastBits  = 5
	mostBits   = 9
	leastSpace = 1
	mostSpace  = 64
)

const (
	none = 0
	got  = 1
	turn = 2
	wait = 3
	full = 4
)

const (
	errArg  = api.Errno(1)
	errNil  = api.Errno(2)
	errLong = api.Errno(5)
	errNone = api.Errno(7)
	errFull = api.Errno(9)
)

// spaces are the edges of those that may be, and a few between.
var spaces = []int{1, 2, 3, 7, 63, 64}

// strangers are numbers that are far from all that may be, of words, pages, sizes and spaces; or, in 32 bits, are not.
var strangers = []int{math.MinInt, math.MinInt + 1, math.MinInt32, -1 << 32, -1<<32 + 1, -65, -1, 1 << 16, math.MaxInt32, 1 << 32, 1<<32 + 1, 1<<32 + 5, math.MaxInt - 1, math.MaxInt}

// power is how many words a page of so many bits has.
func power(bits int) int {
	n := 1
	for range bits {
		n *= 2
	}
	return n
}

// model is a tail as the chapter tells it.
type model struct {
	size   int
	space  int
	page   int
	offset int
}

func (m *model) over() bool { return m.offset > m.size }

func (m *model) last() bool { return m.page == m.space-1 }

func (m *model) most() int { return min(m.offset, m.size) }

func (m *model) addr() uint64 { return uint64(m.page*m.size + m.most()) }

func (m *model) take(n int) (uint64, int, api.Errno) {
	if n < 1 {
		return 0, none, errArg
	}
	if n > m.size {
		return 0, none, errLong
	}
	if m.over() {
		if m.last() {
			return 0, full, api.OK
		}
		return 0, wait, api.OK
	}
	a := m.addr()
	m.offset += n
	if !m.over() {
		return a, got, api.OK
	}
	if m.last() {
		return 0, full, api.OK
	}
	return 0, turn, api.OK
}

func (m *model) turn() api.Errno {
	if !m.over() {
		return errNone
	}
	if m.last() {
		return errFull
	}
	m.page, m.offset = m.page+1, 0
	return api.OK
}

func (m *model) close() api.Errno {
	if m.offset == 0 {
		return api.OK
	}
	if m.last() {
		return errFull
	}
	m.page, m.offset = m.page+1, 0
	return api.OK
}

func (m *model) begin(page int) api.Errno {
	if page < 0 || page > m.space-1 {
		return errArg
	}
	m.page, m.offset = page, 0
	if page == 0 {
		m.offset = 1
	}
	return api.OK
}

// run is a tail, and what it should be.
type run struct {
	t *testing.T
	x *tail.Tail
	m model
}

// made is a new tail that must be there.
func made(t *testing.T, bits, space int) *run {
	t.Helper()
	x, e := tail.New(bits, space)
	if e != api.OK || x == nil {
		t.Fatalf("New(%d, %d) tells %d, %v", bits, space, e, x)
	}
	r := &run{t: t, x: x, m: model{size: power(bits), space: space, page: 0, offset: 1}}
	r.stand()
	return r
}

// at is a tail in a page, at an offset in it; at one word more than the page has it is over.
func at(t *testing.T, bits, space, page, offset int) *run {
	t.Helper()
	r := made(t, bits, space)
	r.begin(page, api.OK)
	if n := offset - r.m.offset; n > 0 {
		left := r.m.size - r.m.offset
		r.takes(min(n, left))
		if n > left {
			r.takes(n - left)
		}
	}
	if r.m.page != page || r.m.offset != offset {
		t.Fatalf("page %d, offset %d can't be reached", page, offset)
	}
	return r
}

// stand: whoever tells where it is tells the model's, twice, since to tell changes nothing.
func (r *run) stand() {
	r.t.Helper()
	x, m := r.x, &r.m
	for range 2 {
		if x.Page() != m.page || x.Offset() != m.most() || x.Over() != m.over() || x.Addr() != m.addr() || x.Last() != m.last() {
			r.t.Fatalf("page %d, offset %d, over %v, address %d, last %v: not as %+v", x.Page(), x.Offset(), x.Over(), x.Addr(), x.Last(), *m)
		}
	}
}

// take: what comes of it is written out, and is what the model says.
func (r *run) take(n int, a uint64, kind int, e api.Errno) {
	r.t.Helper()
	was := r.m
	if isA, isKind, isE := r.x.Take(n); isA != a || isKind != kind || isE != e {
		r.t.Fatalf("%+v: Take(%d) tells %d, %d, %d, not %d, %d, %d", was, n, isA, isKind, isE, a, kind, e)
	}
	if isA, isKind, isE := r.m.take(n); isA != a || isKind != kind || isE != e {
		r.t.Fatalf("%+v: the model's Take(%d) tells %d, %d, %d, not %d, %d, %d", was, n, isA, isKind, isE, a, kind, e)
	}
	r.stand()
}

// after: a call tells what is asked, the model's too.
func (r *run) after(call string, is, model, want api.Errno, was model) {
	r.t.Helper()
	if is != want || model != want {
		r.t.Fatalf("%+v: %s tells %d, the model's %d, not %d", was, call, is, model, want)
	}
	r.stand()
}

func (r *run) turn(want api.Errno) {
	r.t.Helper()
	was := r.m
	r.after("Turn", r.x.Turn(), r.m.turn(), want, was)
}

func (r *run) close(want api.Errno) {
	r.t.Helper()
	was := r.m
	r.after("Close", r.x.Close(), r.m.close(), want, was)
}

func (r *run) begin(page int, want api.Errno) {
	r.t.Helper()
	was := r.m
	r.after(fmt.Sprintf("Begin(%d)", page), r.x.Begin(page), r.m.begin(page), want, was)
}

// takes, turns, closes and begins: what comes of them is told by a copy of the model alone.
func (r *run) takes(n int) (uint64, int) {
	r.t.Helper()
	m := r.m
	a, kind, e := m.take(n)
	r.take(n, a, kind, e)
	return a, kind
}

func (r *run) turns() {
	r.t.Helper()
	m := r.m
	r.turn(m.turn())
}

func (r *run) closes() {
	r.t.Helper()
	m := r.m
	r.close(m.close())
}

func (r *run) begins(page int) {
	r.t.Helper()
	m := r.m
	r.begin(page, m.begin(page))
}

// is: where it is, written out.
func (r *run) is(page, offset int, over bool, a uint64, last bool) {
	r.t.Helper()
	x := r.x
	if x.Page() != page || x.Offset() != offset || x.Over() != over || x.Addr() != a || x.Last() != last {
		r.t.Fatalf("page %d, offset %d, over %v, address %d, last %v: not %d, %d, %v, %d, %v", x.Page(), x.Offset(), x.Over(), x.Addr(), x.Last(), page, offset, over, a, last)
	}
}

// each goes through all page sizes with some spaces.
func each(f func(bits, space int)) {
	for bits := leastBits; bits <= mostBits; bits++ {
		for _, space := range spaces {
			f(bits, space)
		}
	}
}

func TestExample(t *testing.T) {
	r := made(t, 5, 2)
	r.take(30, 1, got, api.OK)
	r.take(2, 0, turn, api.OK)
	r.take(1, 0, wait, api.OK)
	r.turn(api.OK)
	r.take(2, 32, got, api.OK)
	r.is(1, 2, false, 34, true)
}

// P14.1

func TestNew(t *testing.T) {
	for bits := leastBits; bits <= mostBits; bits++ {
		for space := leastSpace; space <= mostSpace; space++ {
			r := made(t, bits, space)
			r.is(0, 1, false, 1, space == 1)
			r.take(1, 1, got, api.OK)
			r.is(0, 2, false, 2, space == 1)
		}
	}
}

func TestNewRefuses(t *testing.T) {
	no := func(bits, space int) {
		t.Helper()
		if x, e := tail.New(bits, space); x != nil || e != errArg {
			t.Fatalf("New(%d, %d) tells %v, %d", bits, space, x, e)
		}
	}
	wrongBits := append([]int{-5, 0, 1, 4, 10, 32, 64, 512}, strangers...)
	wrongSpaces := append([]int{-64, -2, 0, 65, 66, 128}, strangers...)
	for _, bits := range wrongBits {
		for _, space := range append(spaces, wrongSpaces...) {
			no(bits, space)
		}
	}
	for bits := leastBits; bits <= mostBits; bits++ {
		for _, space := range wrongSpaces {
			no(bits, space)
		}
	}
}

// The sizes of pages and the number of pages, written out.
func TestSizes(t *testing.T) {
	for bits, size := range map[int]int{5: 32, 6: 64, 7: 128, 8: 256, 9: 512} {
		r := made(t, bits, 64)
		r.take(size-1, 1, got, api.OK)
		r.is(0, size, false, uint64(size), false)
		for page := 1; page < 64; page++ {
			r.take(1, 0, turn, api.OK)
			r.turn(api.OK)
			r.is(page, 0, false, uint64(page*size), page == 63)
			r.take(size, uint64(page*size), got, api.OK)
			r.is(page, size, false, uint64(page*size+size), page == 63)
		}
		r.take(1, 0, full, api.OK)
		r.is(63, size, true, uint64(64*size), true)
		r.turn(errFull)
		r.close(errFull)
	}
}

func TestTakeRefuses(t *testing.T) {
	each(func(bits, space int) {
		size := power(bits)
		for _, page := range []int{0, space - 1} {
			for _, offset := range []int{1, 2, size - 1, size, size + 1, size + 7} {
				r := at(t, bits, space, page, offset)
				for _, n := range []int{0, -1, -2, -size, math.MinInt32, -1 << 32, math.MinInt + 1, math.MinInt} {
					r.take(n, 0, none, errArg)
				}
				for _, n := range []int{size + 1, size + 2, 2 * size, 1 << 31, 1 << 32, 1<<32 + 1, math.MaxInt - 1, math.MaxInt} {
					r.take(n, 0, none, errLong)
				}
			}
		}
	})
}

// Of each offset all lengths: what fits is got, up to the page's last word, one more isn't.
func TestTakeOfEachLength(t *testing.T) {
	for _, bits := range []int{5, 6} {
		size := power(bits)
		for page := range 3 {
			for offset := range size + 1 {
				if page == 0 && offset == 0 {
					continue
				}
				for n := 1; n <= size; n++ {
					a, kind := uint64(page*size+offset), got
					if offset+n > size {
						a, kind = 0, turn
						if page == 2 {
							kind = full
						}
					}
					r := at(t, bits, 3, page, offset)
					r.take(n, a, kind, api.OK)
					r.is(page, min(offset+n, size), offset+n > size, uint64(page*size+min(offset+n, size)), page == 2)
				}
			}
		}
	}
}

func TestTakeOfWhatIsLeft(t *testing.T) {
	each(func(bits, space int) {
		size := power(bits)
		for page := range space {
			for _, offset := range []int{1, 2, size / 2, size - 2, size - 1} {
				left, first := size-offset, uint64(page*size)
				r := at(t, bits, space, page, offset)
				r.take(left, first+uint64(offset), got, api.OK)
				r.is(page, size, false, first+uint64(size), page == space-1)
				r.turn(errNone)

				r = at(t, bits, space, page, offset)
				kind := turn
				if page == space-1 {
					kind = full
				}
				r.take(left+1, 0, kind, api.OK)
				r.is(page, size, true, first+uint64(size), page == space-1)
			}
		}
	})
}

// A page's words fit from its first word on alone, and on page 0 never.
func TestTakeOfAWholePage(t *testing.T) {
	each(func(bits, space int) {
		size := power(bits)
		for page := 1; page < space; page++ {
			r := at(t, bits, space, page, 0)
			r.take(size, uint64(page*size), got, api.OK)
			r.is(page, size, false, uint64(page*size+size), page == space-1)
			if page < space-1 {
				r.take(size, 0, turn, api.OK)
				r.take(size, 0, wait, api.OK)
			} else {
				r.take(size, 0, full, api.OK)
			}
		}
		r := made(t, bits, space)
		if space > 1 {
			r.take(size, 0, turn, api.OK)
		} else {
			r.take(size, 0, full, api.OK)
		}
		r.is(0, size, true, uint64(size), space == 1)
	})
}

func TestTakeWhileItIsOver(t *testing.T) {
	each(func(bits, space int) {
		size := power(bits)
		for _, page := range []int{0, space / 2, space - 1} {
			kind := wait
			if page == space-1 {
				kind = full
			}
			for _, offset := range []int{size + 1, size + 2, size + size/2, 2*size - 1, 2 * size} {
				r := at(t, bits, space, page, offset)
				for n := 1; n <= size; n++ {
					r.take(n, 0, kind, api.OK)
				}
				for range 100 {
					r.take(size, 0, kind, api.OK)
				}
				if page == space-1 {
					r.turn(errFull)
					continue
				}
				r.turn(api.OK)
				r.is(page+1, 0, false, uint64((page+1)*size), page+1 == space-1)
				r.take(1, uint64((page+1)*size), got, api.OK)
			}
		}
	})
}

// So often that the offset would reach the page's bits, if something turned.
func TestTakeWhileItIsOverVeryOften(t *testing.T) {
	for _, space := range []int{1, 2} {
		r := at(t, 9, space, 0, 513)
		kind := wait
		if space == 1 {
			kind = full
		}
		for range 1<<32/512 + 10 {
			if a, k, e := r.x.Take(512); a != 0 || k != kind || e != api.OK {
				t.Fatalf("Take tells %d, %d, %d", a, k, e)
			}
		}
		r.is(0, 512, true, 512, space == 1)
		r.turns()
		r.begin(0, api.OK)
		r.take(5, 1, got, api.OK)
	}
}

func TestTurn(t *testing.T) {
	each(func(bits, space int) {
		size := power(bits)
		r := made(t, bits, space)
		r.turn(errNone)
		for page := range space {
			r.takes(r.m.size - r.m.offset)
			r.is(page, size, false, uint64(page*size+size), page == space-1)
			r.turn(errNone)
			r.takes(1)
			if page == space-1 {
				r.turn(errFull)
				r.turn(errFull)
				r.is(page, size, true, uint64(page*size+size), true)
				break
			}
			r.turn(api.OK)
			r.is(page+1, 0, false, uint64(page*size+size), page+1 == space-1)
			r.turn(errNone)
			r.turn(errNone)
			r.takes(1)
			r.turn(errNone)
		}
	})
}

// A page that isn't over isn't turned, the last one neither: then it is ErrNone that is told.
func TestTurnWhenItIsNotOver(t *testing.T) {
	each(func(bits, space int) {
		size := power(bits)
		for page := range space {
			for _, offset := range []int{0, 1, 2, size / 2, size - 1, size} {
				if page == 0 && offset == 0 {
					continue
				}
				r := at(t, bits, space, page, offset)
				r.turn(errNone)
				r.is(page, offset, false, uint64(page*size+offset), page == space-1)
				r.takes(1)
			}
		}
	})
}

// Which error comes first, where several hold.
func TestFirstErrors(t *testing.T) {
	// Of the last page, that is over: that it is full is an answer of Take, no error.
	r := at(t, 5, 1, 0, 33)
	r.take(0, 0, none, errArg)
	r.take(math.MinInt, 0, none, errArg)
	r.take(33, 0, none, errLong)
	r.take(math.MaxInt, 0, none, errLong)
	r.take(32, 0, full, api.OK)
	r.turn(errFull)
	r.close(errFull)
	r.begin(1, errArg)
	// Of one ahead of it.
	r = at(t, 5, 2, 0, 33)
	r.take(0, 0, none, errArg)
	r.take(33, 0, none, errLong)
	r.take(32, 0, wait, api.OK)
	r.begin(2, errArg)
	// Of the last page, that isn't over: ErrNone and nothing, not ErrFull.
	r = at(t, 5, 2, 1, 0)
	r.turn(errNone)
	r.close(api.OK)
	r.take(32, 32, got, api.OK)
	r.turn(errNone)
	r.close(errFull)
}

// What is refused changes nothing: what is behind it is as if it hadn't been.
func TestWhatIsRefusedChangesNothing(t *testing.T) {
	each(func(bits, space int) {
		size := power(bits)
		for _, page := range []int{0, space / 2, space - 1} {
			for _, offset := range []int{1, size - 1, size, size + 1, 2 * size} {
				r := at(t, bits, space, page, offset)
				for _, n := range strangers {
					if n < 1 {
						r.take(n, 0, none, errArg)
					} else {
						r.take(n, 0, none, errLong)
					}
					r.begin(n, errArg)
					r.begin(space, errArg)
				}
				if offset <= size {
					r.turn(errNone)
				} else if page == space-1 {
					r.turn(errFull)
				}
				if page == space-1 {
					r.close(errFull)
				}
				o := at(t, bits, space, page, offset)
				for n := 1; n <= 3; n++ {
					a, k := r.takes(n)
					if oa, ok := o.takes(n); a != oa || k != ok {
						t.Fatalf("Take(%d) tells %d, %d, not %d, %d", n, a, k, oa, ok)
					}
				}
			}
		}
	})
}

// P14.2

func TestCloseAtTheFirstWord(t *testing.T) {
	each(func(bits, space int) {
		size := power(bits)
		for page := 1; page < space; page++ {
			r := at(t, bits, space, page, 0)
			for range 3 {
				r.close(api.OK)
				r.is(page, 0, false, uint64(page*size), page == space-1)
			}
			r.take(size, uint64(page*size), got, api.OK)
		}
	})
}

func TestClose(t *testing.T) {
	each(func(bits, space int) {
		size := power(bits)
		for page := range space {
			for _, offset := range []int{1, 2, size / 2, size - 1, size, size + 1, size + 2, 2 * size} {
				r := at(t, bits, space, page, offset)
				if page == space-1 {
					r.close(errFull)
					r.close(errFull)
					r.is(page, min(offset, size), offset > size, uint64(page*size+min(offset, size)), true)
					continue
				}
				r.close(api.OK)
				r.is(page+1, 0, false, uint64((page+1)*size), page+1 == space-1)
				r.close(api.OK)
				r.is(page+1, 0, false, uint64((page+1)*size), page+1 == space-1)
				r.turn(errNone)
				r.take(3, uint64((page+1)*size), got, api.OK)
			}
		}
	})
}

// Page 0 has its word 0 from the beginning on: so a new tail's first page is closed.
func TestCloseOfANewTail(t *testing.T) {
	r := made(t, 5, 2)
	r.close(api.OK)
	r.is(1, 0, false, 32, true)
	r.close(api.OK)
	r.take(1, 32, got, api.OK)
	r.close(errFull)
	r.is(1, 1, false, 33, true)
	r = made(t, 5, 1)
	r.close(errFull)
	r.is(0, 1, false, 1, true)
	r.take(31, 1, got, api.OK)
}

func TestCloseBehindABegin(t *testing.T) {
	each(func(bits, space int) {
		size := power(bits)
		for page := range space {
			r := at(t, bits, space, space-1, size+1)
			r.begin(page, api.OK)
			switch {
			case page > 0:
				r.close(api.OK)
				r.is(page, 0, false, uint64(page*size), page == space-1)
			case space == 1:
				r.close(errFull)
				r.is(0, 1, false, 1, true)
			default:
				r.close(api.OK)
				r.is(1, 0, false, uint64(size), space == 2)
			}
		}
	})
}

// Who was told to turn a page finds that it was closed meanwhile.
func TestTurnBehindAClose(t *testing.T) {
	r := made(t, 5, 3)
	r.take(32, 0, turn, api.OK)
	r.close(api.OK)
	r.turn(errNone)
	r.take(32, 32, got, api.OK)
	r.take(1, 0, turn, api.OK)
	r.turn(api.OK)
	r.close(api.OK)
	r.is(2, 0, false, 64, true)
}

func TestBegin(t *testing.T) {
	each(func(bits, space int) {
		size := power(bits)
		wrong := append([]int{-2, space, space + 1, mostSpace, mostSpace + 1, 2 * mostSpace}, strangers...)
		for from := range space {
			for _, offset := range []int{1, size, size + 1} {
				r := at(t, bits, space, from, offset)
				for _, page := range wrong {
					if page < 0 || page >= space {
						r.begin(page, errArg)
					}
				}
				r.is(from, min(offset, size), offset > size, uint64(from*size+min(offset, size)), from == space-1)
				for _, page := range []int{space - 1, 0, 1, space / 2} {
					if page >= space {
						continue
					}
					r.begin(page, api.OK)
					first := 0
					if page == 0 {
						first = 1
					}
					r.is(page, first, false, uint64(page*size+first), page == space-1)
					r.turn(errNone)
					r.take(size-first, uint64(page*size+first), got, api.OK)
					r.takes(1)
					r.takes(1)
				}
			}
		}
	})
}

// Begin goes back as well as on, and as often as it is told.
func TestBeginAgain(t *testing.T) {
	r := made(t, 5, 4)
	for range 3 {
		r.begin(3, api.OK)
		r.take(32, 96, got, api.OK)
		r.take(1, 0, full, api.OK)
		r.begin(1, api.OK)
		r.begin(1, api.OK)
		r.take(32, 32, got, api.OK)
		r.take(1, 0, turn, api.OK)
		r.begin(0, api.OK)
		r.take(31, 1, got, api.OK)
		r.take(1, 0, turn, api.OK)
		r.turn(api.OK)
		r.is(1, 0, false, 32, false)
	}
}

// Behind a page's last word is the next page's first one, of the last page too, over or not.
func TestAddrAtAPagesEnd(t *testing.T) {
	each(func(bits, space int) {
		size := power(bits)
		for page := range space {
			next := uint64(page+1) * uint64(size)
			for _, offset := range []int{size, size + 1, size + 5, 2 * size} {
				r := at(t, bits, space, page, offset)
				if a := r.x.Addr(); a != next {
					t.Fatalf("page %d, offset %d: the address is %d, not %d", page, offset, a, next)
				}
			}
			r := at(t, bits, space, page, size-1)
			if a := r.x.Addr(); a != next-1 {
				t.Fatalf("page %d: the address of the last word is %d, not %d", page, a, next-1)
			}
		}
	})
}

// P14.3

// rooms are the words that were got, and the pages that somebody was told to turn.
type rooms struct {
	t      *testing.T
	size   int
	had    []bool
	turned []int
}

func newRooms(t *testing.T, size, space int) *rooms {
	return &rooms{t: t, size: size, had: make([]bool, size*space), turned: make([]int, space)}
}

// got: it is in one page, not at 0, and nobody has a word of it.
func (o *rooms) got(a uint64, n int) {
	o.t.Helper()
	if a == 0 || a+uint64(n) > uint64(len(o.had)) || (int(a)+n-1)/o.size != int(a)/o.size {
		o.t.Fatalf("the room of %d words at %d can't be", n, a)
	}
	for i := int(a); i < int(a)+n; i++ {
		if o.had[i] {
			o.t.Fatalf("the word %d of the room of %d at %d is somebody else's", i, n, a)
		}
		o.had[i] = true
	}
}

// told: somebody is to turn the page.
func (o *rooms) told(page int) {
	o.t.Helper()
	o.turned[page]++
	if o.turned[page] > 1 || page == len(o.turned)-1 {
		o.t.Fatalf("page %d is to be turned: %d times", page, o.turned[page])
	}
}

// take notes what came of it.
func (o *rooms) take(r *run, n int) {
	o.t.Helper()
	page := r.x.Page()
	switch a, kind := r.takes(n); kind {
	case got:
		o.got(a, n)
		if int(a)/o.size != page {
			o.t.Fatalf("a room at %d of page %d", a, page)
		}
	case turn:
		o.told(page)
	}
}

// Each run of six calls, of all that are near, Begin aside.
func TestAllShortRuns(t *testing.T) {
	calls := []func(r *run, o *rooms){
		func(r *run, o *rooms) { o.take(r, 1) },
		func(r *run, o *rooms) { o.take(r, 16) },
		func(r *run, o *rooms) { o.take(r, 31) },
		func(r *run, o *rooms) { o.take(r, 32) },
		func(r *run, o *rooms) { r.turns() },
		func(r *run, o *rooms) { r.closes() },
		func(r *run, o *rooms) { o.take(r, 33) },
	}
	const length = 6
	all := 1
	for range length {
		all *= len(calls)
	}
	for which := range all {
		r := made(t, 5, 3)
		o := newRooms(t, 32, 3)
		for rest, i := which, 0; i < length; rest, i = rest/len(calls), i+1 {
			calls[rest%len(calls)](r, o)
		}
	}
}

// Each run of four calls, with Begin among them.
func TestAllShortRunsWithBegin(t *testing.T) {
	calls := []func(r *run){
		func(r *run) { r.takes(1) },
		func(r *run) { r.takes(31) },
		func(r *run) { r.takes(32) },
		func(r *run) { r.takes(0) },
		func(r *run) { r.turns() },
		func(r *run) { r.closes() },
		func(r *run) { r.begins(0) },
		func(r *run) { r.begins(1) },
		func(r *run) { r.begins(2) },
		func(r *run) { r.begins(3) },
		func(r *run) { r.begins(-1) },
	}
	n := len(calls)
	for space := 1; space <= 3; space++ {
		for which := range n * n * n * n {
			r := made(t, 5, space)
			for rest, i := which, 0; i < 4; rest, i = rest/n, i+1 {
				calls[rest%n](r)
			}
		}
	}
}

func TestRunsByLot(t *testing.T) {
	for seed := range 150 {
		d := rand.New(rand.NewSource(int64(seed)))
		bits, space := leastBits+seed%5, spaces[seed%len(spaces)]
		r := made(t, bits, space)
		o := newRooms(t, r.m.size, space)
		most := 1 + d.Intn(r.m.size)
		for range 2000 {
			switch d.Intn(24) {
			case 0:
				if d.Intn(10) == 0 {
					r.closes()
				}
			case 1, 2, 3:
				r.turns()
			case 4:
				o.take(r, r.m.size-d.Intn(3)+1)
			case 5:
				o.take(r, r.m.size-r.m.most()+d.Intn(3)-1)
			case 6:
				o.take(r, strangers[d.Intn(len(strangers))])
			default:
				o.take(r, 1+d.Intn(most))
			}
		}
	}
}

// Where what is got is all there is: word by word, each word but 0 is somebody's at last.
func TestAllWordsAreGot(t *testing.T) {
	each(func(bits, space int) {
		r := made(t, bits, space)
		o := newRooms(t, r.m.size, space)
		for r.m.offset <= r.m.size {
			o.take(r, 1)
			r.turns()
		}
		for i, had := range o.had {
			if had != (i > 0) {
				t.Fatalf("bits %d, space %d: the word %d: %v", bits, space, i, had)
			}
		}
		for page, times := range o.turned {
			if want := min(1, space-1-page); times != want {
				t.Fatalf("bits %d, space %d: page %d is to be turned %d times", bits, space, page, times)
			}
		}
	})
}

// Many at once: rooms overlap nowhere, and of each page one is told to turn it at most.

// asked is what came of one that asked: rooms and their lengths, and how many pages it turned.
type asked struct {
	a      []uint64
	n      []int
	turned int
	missed int
	wrong  string
}

// ask asks till there is no further page; who is told to turn a page turns it, and who has to wait may turn it too, if helps.
func ask(x *tail.Tail, lengths []int, helps bool) (o asked) {
	for i := 0; ; i++ {
		n := lengths[i%len(lengths)]
		a, kind, e := x.Take(n)
		if e != api.OK || (kind == got) != (a != 0) {
			o.wrong = fmt.Sprint("Take(", n, ") tells ", a, " ", kind, " ", e)
			return o
		}
		switch kind {
		case got:
			o.a, o.n = append(o.a, a), append(o.n, n)
		case turn:
			o.turned++
			if e := x.Turn(); e != api.OK {
				o.missed++
			}
		case wait:
			if helps {
				x.Turn()
			} else {
				runtime.Gosched()
			}
		case full:
			return o
		default:
			o.wrong = fmt.Sprint("Take(", n, ") tells ", kind)
			return o
		}
	}
}

// manyAsk: they all ask at once.
func manyAsk(t *testing.T, bits, space int, lengths [][]int, helps bool) []asked {
	t.Helper()
	x, e := tail.New(bits, space)
	if e != api.OK {
		t.Fatal(e)
	}
	told := make([]asked, len(lengths))
	var all, ready sync.WaitGroup
	ready.Add(len(lengths))
	for i, l := range lengths {
		all.Go(func() {
			ready.Done()
			ready.Wait()
			told[i] = ask(x, l, helps)
		})
	}
	all.Wait()
	o := newRooms(t, power(bits), space)
	for _, one := range told {
		if one.wrong != "" {
			t.Fatal(one.wrong)
		}
		for i, a := range one.a {
			o.got(a, one.n[i])
		}
	}
	if x.Page() != space-1 || !x.Over() || !x.Last() || x.Offset() != power(bits) {
		t.Fatalf("at last it is at page %d, offset %d, over %v", x.Page(), x.Offset(), x.Over())
	}
	return told
}

// sum: of what each was told.
func sum(l []asked, f func(asked) int) int {
	n := 0
	for _, one := range l {
		n += f(one)
	}
	return n
}

// singles: so many that ask for one word at a time.
func singles(many int) [][]int {
	return slices.Repeat([][]int{{1}}, many)
}

func TestManyAskForSingleWords(t *testing.T) {
	for bits := leastBits; bits <= mostBits; bits++ {
		for range 40 {
			told := manyAsk(t, bits, 64, singles(8), false)
			if n := sum(told, func(o asked) int { return len(o.a) }); n != 64*power(bits)-1 {
				t.Fatalf("%d words were got of %d", n, 64*power(bits)-1)
			}
			turned, missed := sum(told, func(o asked) int { return o.turned }), sum(told, func(o asked) int { return o.missed })
			if turned != 63 || missed != 0 {
				t.Fatalf("%d pages were to be turned, of which %d weren't over", turned, missed)
			}
		}
	}
}

func TestManyAskForSomeWords(t *testing.T) {
	for bits := leastBits; bits <= mostBits; bits++ {
		d := rand.New(rand.NewSource(int64(bits)))
		for range 40 {
			lengths := make([][]int, 8)
			for i := range lengths {
				for range 1 + d.Intn(20) {
					lengths[i] = append(lengths[i], 1+d.Intn(power(bits)/(1+d.Intn(12))))
				}
			}
			told := manyAsk(t, bits, 64, lengths, false)
			turned, missed := sum(told, func(o asked) int { return o.turned }), sum(told, func(o asked) int { return o.missed })
			if turned != 63 || missed != 0 {
				t.Fatalf("%d pages were to be turned, of which %d weren't over", turned, missed)
			}
		}
	}
}

// Who waits turns the page too: it is turned once all the same, so no page is left out and no room is told twice.
func TestManyTurn(t *testing.T) {
	for range 300 {
		told := manyAsk(t, leastBits, 64, singles(8), true)
		if n := sum(told, func(o asked) int { return len(o.a) }); n != 64*power(leastBits)-1 {
			t.Fatalf("%d words were got of %d", n, 64*power(leastBits)-1)
		}
		if n := sum(told, func(o asked) int { return o.turned }); n != 63 {
			t.Fatalf("%d pages were to be turned", n)
		}
	}
}

// closeAtOnce: some ask for single words, the others close as often.
func closeAtOnce(t *testing.T, askers, closers int) {
	t.Helper()
	const bits, space = 6, 64
	x, e := tail.New(bits, space)
	if e != api.OK {
		t.Fatal(e)
	}
	told := make([]asked, askers)
	closed := make([][]api.Errno, closers)
	var all, ready sync.WaitGroup
	ready.Add(askers + closers)
	for i := range askers {
		all.Go(func() {
			ready.Done()
			ready.Wait()
			told[i] = ask(x, []int{1, 2, 3}, true)
		})
	}
	for i := range closers {
		all.Go(func() {
			ready.Done()
			ready.Wait()
			for range 12 {
				closed[i] = append(closed[i], x.Close())
				runtime.Gosched()
			}
		})
	}
	all.Wait()
	o := newRooms(t, power(bits), space)
	for _, one := range told {
		if one.wrong != "" {
			t.Fatal(one.wrong)
		}
		for i, a := range one.a {
			o.got(a, one.n[i])
		}
	}
	if n := sum(told, func(o asked) int { return o.turned }); n > space-1 {
		t.Fatalf("%d pages were to be turned", n)
	}
	for _, l := range closed {
		for _, e := range l {
			if e != api.OK && e != errFull {
				t.Fatalf("Close tells %d", e)
			}
		}
	}
}

func TestManyAskWhileOthersClose(t *testing.T) {
	for range 300 {
		closeAtOnce(t, 5, 3)
	}
}

// closeOwn takes a word and closes its page, time and again: whoever else asks meanwhile, that page is behind then.
func closeOwn(x *tail.Tail, size int) string {
	for {
		a, kind, _ := x.Take(1)
		if kind == full {
			return ""
		}
		if kind != got {
			x.Turn()
			continue
		}
		page := int(a) / size
		e := x.Close()
		if e == api.OK && x.Page() <= page {
			return fmt.Sprint("page ", page, " was closed, and is still the tail's")
		}
		if e == errFull && x.Page() != 63 || e != api.OK && e != errFull {
			return fmt.Sprint("Close of page ", page, " tells ", e)
		}
	}
}

func TestAPageIsClosedWhileOthersAsk(t *testing.T) {
	const bits, many = 9, 8
	for range 200 {
		x, e := tail.New(bits, 64)
		if e != api.OK {
			t.Fatal(e)
		}
		wrong := make([]string, many)
		var all, ready sync.WaitGroup
		ready.Add(many)
		for i := range many {
			all.Go(func() {
				ready.Done()
				ready.Wait()
				if i < 2 {
					wrong[i] = closeOwn(x, power(bits))
				} else {
					wrong[i] = ask(x, []int{1}, true).wrong
				}
			})
		}
		all.Wait()
		for _, w := range wrong {
			if w != "" {
				t.Fatal(w)
			}
		}
	}
}

// Of many who close one page at once, nobody closes the next one, which has nothing.
func TestManyClose(t *testing.T) {
	for range 2000 {
		x, _ := tail.New(leastBits, 64)
		var all, ready sync.WaitGroup
		ready.Add(8)
		for range 8 {
			all.Go(func() {
				ready.Done()
				ready.Wait()
				x.Close()
			})
		}
		all.Wait()
		if x.Page() != 1 || x.Offset() != 0 {
			t.Fatalf("page %d, offset %d", x.Page(), x.Offset())
		}
	}
}

// The rules that hold everywhere

func TestNilTail(t *testing.T) {
	var x *tail.Tail
	for range 2 {
		if x.Page() != 0 || x.Offset() != 0 || x.Over() || x.Addr() != 0 || x.Last() {
			t.Fatalf("page %d, offset %d, over %v, address %d, last %v", x.Page(), x.Offset(), x.Over(), x.Addr(), x.Last())
		}
		for _, n := range append([]int{0, 1, 2, 32, 33, 512, 513}, strangers...) {
			if a, kind, e := x.Take(n); a != 0 || kind != none || e != errNil {
				t.Fatalf("Take(%d) tells %d, %d, %d", n, a, kind, e)
			}
			if e := x.Begin(n); e != errNil {
				t.Fatalf("Begin(%d) tells %d", n, e)
			}
		}
		if e := x.Turn(); e != errNil {
			t.Fatalf("Turn tells %d", e)
		}
		if e := x.Close(); e != errNil {
			t.Fatalf("Close tells %d", e)
		}
	}
}

func TestTailsAreApart(t *testing.T) {
	r, o := made(t, 5, 3), made(t, 5, 3)
	r.takes(20)
	o.stand()
	r.takes(20)
	o.take(3, 1, got, api.OK)
	r.turns()
	o.stand()
	o.begin(2, api.OK)
	r.is(1, 0, false, 32, false)
	r.closes()
	o.is(2, 0, false, 64, true)
}

// The same calls tell the same.
func TestTheSameCallsTellTheSame(t *testing.T) {
	calls := func() string {
		d := rand.New(rand.NewSource(7))
		x, _ := tail.New(6, 9)
		told := ""
		for range 500 {
			a, kind, e := x.Take(d.Intn(70) - 2)
			told += fmt.Sprint(a, kind, e, x.Page(), x.Offset(), x.Over(), x.Addr(), x.Last())
			switch d.Intn(8) {
			case 0, 1, 2:
				told += fmt.Sprint(x.Turn())
			case 3:
				told += fmt.Sprint(x.Close())
			case 4:
				told += fmt.Sprint(x.Begin(d.Intn(11) - 1))
			}
		}
		return told
	}
	if calls() != calls() {
		t.Fatal("two runs of the same calls differ")
	}
}
