package header_test

import (
	"math"
	"math/rand"
	"testing"

	"haycroft/api"
	"haycroft/header"
)

// The places of the chapter as numbers, written out, so that nothing here leans on the program's own ones.
const (
	ones    = uint64(math.MaxUint64)
	top     = uint64(281474976710655)     // the greatest address, 2^48 - 1
	bit48   = uint64(281474976710656)     // of a tomb
	bit49   = uint64(562949953421312)     // of one that is invalid
	bit50   = uint64(1125899906842624)    // from here on a header has nothing
	bit63   = uint64(9223372036854775808) // of somebody who writes
	round   = uint64(4294967296)          // 2^32, of counts
	marked  = uint64(189850439385088)     // 44203 times 2^32
	part    = uint64(65536)
	keyMax  = uint64(64)
	valMax  = uint64(128)
	longRun = 20000
)

// yesNo are both.
func yesNo() []bool {
	return []bool{false, true}
}

// prevs are addresses that a header may have.
func prevs() []uint64 {
	l := []uint64{0, 1, 2, 5, 70, 0x123456789abc, 0xaaaaaaaaaaaa, 0x555555555555, round - 1, round, top - 1, top}
	for i := range 48 {
		l = append(l, 1<<i, top-1<<i)
	}
	return l
}

// anyWords are words of all sorts: single bits, all but one, mixed ones.
func anyWords() []uint64 {
	l := []uint64{0, ones, 0x0123456789abcdef, 0xfedcba9876543210, 0xaaaaaaaaaaaaaaaa, 0x5555555555555555}
	for i := range 64 {
		l = append(l, 1<<i, ones-1<<i, 1<<i-1, ones<<i)
	}
	r := rand.New(rand.NewSource(8))
	for range longRun {
		w := r.Uint64()
		// Shifted, so that words with few high or few low bits come as often.
		l = append(l, w, w>>r.Intn(64), w<<r.Intn(64), w&r.Uint64()&r.Uint64()&r.Uint64())
	}
	return l
}

// headerWord lays a header by place values.
func headerWord(h api.Header) uint64 {
	w := h.Prev
	if h.Tomb {
		w += bit48
	}
	if h.Invalid {
		w += bit49
	}
	return w
}

// packs is a Pack that must do.
func packs(t *testing.T, h api.Header, want uint64) {
	t.Helper()
	if g, e := header.Pack(h); g != want || e != api.OK {
		t.Fatalf("Pack(%v) is %x, error %d, not %x", h, g, e, want)
	}
}

// unpacks is an Unpack that must do.
func unpacks(t *testing.T, w uint64, want api.Header) {
	t.Helper()
	if g, e := header.Unpack(w); g != want || e != api.OK {
		t.Fatalf("Unpack(%x) is %v, error %d, not %v", w, g, e, want)
	}
}

// noHeader is a word that must be none's.
func noHeader(t *testing.T, w uint64) {
	t.Helper()
	if g, e := header.Unpack(w); g != (api.Header{}) || e != api.ErrForm {
		t.Fatalf("Unpack(%x) is %v, error %d", w, g, e)
	}
}

// P8.1

func TestPackByHand(t *testing.T) {
	for _, x := range []struct {
		h    api.Header
		want uint64
	}{
		{api.Header{}, 0},
		{api.Header{Prev: 1}, 1},
		{api.Header{Prev: api.MaxAddr}, 0x0000ffffffffffff},
		{api.Header{Tomb: true}, 0x0001000000000000},
		{api.Header{Invalid: true}, 0x0002000000000000},
		{api.Header{Tomb: true, Invalid: true}, 0x0003000000000000},
		{api.Header{Prev: 5, Tomb: true}, 0x0001000000000005},
		{api.Header{Prev: 5, Invalid: true}, 0x0002000000000005},
		{api.Header{Prev: 0x123456789abc, Tomb: true, Invalid: true}, 0x0003123456789abc},
		{api.Header{Prev: api.MaxAddr, Tomb: true}, 0x0001ffffffffffff},
		{api.Header{Prev: api.MaxAddr, Invalid: true}, 0x0002ffffffffffff},
		{api.Header{Prev: api.MaxAddr, Tomb: true, Invalid: true}, 0x0003ffffffffffff},
	} {
		packs(t, x.h, x.want)
		unpacks(t, x.want, x.h)
	}
}

func TestPackOfAHeaderThatMayNotBe(t *testing.T) {
	wrong := []uint64{top + 1, top + 2, bit48, bit48 + 5, bit49, bit50, bit48 + bit49, bit63, ones - 1, ones, ones - top}
	for i := 48; i < 64; i++ {
		wrong = append(wrong, 1<<i, 1<<i+1, 1<<i+top)
	}
	for _, prev := range wrong {
		for _, tomb := range yesNo() {
			for _, invalid := range yesNo() {
				h := api.Header{Prev: prev, Tomb: tomb, Invalid: invalid}
				if g, e := header.Pack(h); g != 0 || e != api.ErrArg {
					t.Errorf("Pack(%v) is %x, error %d", h, g, e)
				}
			}
		}
	}
}

func TestUnpackOfEachSingleBit(t *testing.T) {
	for i := range 64 {
		w := uint64(1) << i
		switch {
		case i < 48:
			unpacks(t, w, api.Header{Prev: w})
		case i == 48:
			unpacks(t, w, api.Header{Tomb: true})
		case i == 49:
			unpacks(t, w, api.Header{Invalid: true})
		default:
			noHeader(t, w)
		}
	}
}

func TestUnpackOfAWordThatIsNones(t *testing.T) {
	for _, prev := range prevs() {
		for _, flags := range []uint64{0, bit48, bit49, bit48 + bit49} {
			for i := 50; i < 64; i++ {
				noHeader(t, prev+flags+1<<i)
			}
			noHeader(t, prev+flags+(ones-bit50+1))
		}
	}
	noHeader(t, bit50)
	noHeader(t, bit50+1)
	noHeader(t, ones)
}

func TestUnpackOfAnyWord(t *testing.T) {
	for _, w := range anyWords() {
		if w >= bit50 {
			noHeader(t, w)
			continue
		}
		unpacks(t, w, api.Header{Prev: w % bit48, Tomb: w/bit48%2 == 1, Invalid: w >= bit49})
	}
}

// P8.2

// counts are such as a lock may have.
func counts() []uint64 {
	l := []uint64{0, 1, 2, 7, 65535, 65536, 1<<31 - 1, 1 << 31, 1<<31 + 1, round - 2, round - 1}
	for i := range 32 {
		l = append(l, 1<<i, round-1-1<<i)
	}
	return l
}

// locks is a Lock that must do.
func locks(t *testing.T, w, want uint64) {
	t.Helper()
	if g, e := header.Lock(w); g != want || e != api.OK {
		t.Fatalf("Lock(%x) is %x, error %d, not %x", w, g, e, want)
	}
}

// unlocks is an Unlock that must do.
func unlocks(t *testing.T, w, want uint64) {
	t.Helper()
	if g, e := header.Unlock(w); g != want || e != api.OK {
		t.Fatalf("Unlock(%x) is %x, error %d, not %x", w, g, e, want)
	}
}

// refused are a Lock and an Unlock that must not do.
func refused(t *testing.T, w uint64, lock, unlock api.Errno) {
	t.Helper()
	if g, e := header.Lock(w); lock != api.OK && (g != 0 || e != lock) {
		t.Fatalf("Lock(%x) is %x, error %d, not %d", w, g, e, lock)
	}
	if g, e := header.Unlock(w); unlock != api.OK && (g != 0 || e != unlock) {
		t.Fatalf("Unlock(%x) is %x, error %d, not %d", w, g, e, unlock)
	}
}

func TestLockedAndCountOfAnyWord(t *testing.T) {
	for _, w := range anyWords() {
		if g := header.Locked(w); g != (w >= bit63) {
			t.Fatalf("Locked(%x) is %v", w, g)
		}
		if g := header.Count(w); g != w%round {
			t.Fatalf("Count(%x) is %x", w, g)
		}
	}
}

func TestLockedAndCountByHand(t *testing.T) {
	for _, x := range []struct {
		w      uint64
		locked bool
		count  uint64
	}{
		{0, false, 0},
		{1, false, 1},
		{0x80000000, false, 0x80000000},
		{0xffffffff, false, 0xffffffff},
		{0x100000000, false, 0},
		{0x7fffffff00000000, false, 0},
		{0x7fffffffffffffff, false, 0xffffffff},
		{0x8000000000000000, true, 0},
		{0x8000000000000007, true, 7},
		{0x80000000ffffffff, true, 0xffffffff},
		{0xc000000100000002, true, 2},
		{ones, true, 0xffffffff},
	} {
		if g := header.Locked(x.w); g != x.locked {
			t.Errorf("Locked(%x) is %v", x.w, g)
		}
		if g := header.Count(x.w); g != x.count {
			t.Errorf("Count(%x) is %x", x.w, g)
		}
	}
}

func TestLockWithNobody(t *testing.T) {
	for _, n := range counts() {
		locks(t, n, bit63+n)
		refused(t, n, api.OK, api.ErrNone)
	}
	locks(t, 0, 0x8000000000000000)
	locks(t, 7, 0x8000000000000007)
	locks(t, 0xffffffff, 0x80000000ffffffff)
}

func TestUnlockWithSomebody(t *testing.T) {
	for _, n := range counts() {
		unlocks(t, bit63+n, (n+1)%round)
		refused(t, bit63+n, api.ErrBusy, api.OK)
	}
	unlocks(t, 0x8000000000000000, 1)
	unlocks(t, 0x8000000000000001, 2)
	unlocks(t, 0x800000007fffffff, 0x80000000)
	unlocks(t, 0x8000000080000000, 0x80000001)
	unlocks(t, 0x80000000fffffffe, 0xffffffff)
	unlocks(t, 0x80000000ffffffff, 0)
}

func TestWordsThatAreNoLocks(t *testing.T) {
	// Whether somebody writes or not, the form is the first thing that is told.
	for _, n := range counts() {
		for _, writes := range []uint64{0, bit63} {
			for i := 32; i <= 62; i++ {
				refused(t, writes+n+1<<i, api.ErrForm, api.ErrForm)
			}
			refused(t, writes+n+(bit63-round), api.ErrForm, api.ErrForm)
		}
	}
	refused(t, ones, api.ErrForm, api.ErrForm)
}

func TestLockAndUnlockOfAnyWord(t *testing.T) {
	for _, w := range anyWords() {
		n := w % bit63
		switch {
		case n >= round:
			refused(t, w, api.ErrForm, api.ErrForm)
		case w >= bit63:
			refused(t, w, api.ErrBusy, api.OK)
			unlocks(t, w, (n+1)%round)
		default:
			refused(t, w, api.OK, api.ErrNone)
			locks(t, w, bit63+n)
		}
	}
}

// P8.3

// outside are lengths beyond both bounds; some of them would be right, if they went round.
func outside() (below, above []int) {
	below = []int{math.MinInt, math.MinInt + 1, math.MinInt + 3, -1 << 32, -1<<32 + 3, -65536, -65536 + 3, -65, -64, -2, -1}
	above = []int{129, 130, 255, 256, 256 + 3, 32767, 32768, 65535, 65536, 65536 + 3, 1<<31 - 1, 1 << 31, 1 << 32, 1<<32 + 3, math.MaxInt - 1, math.MaxInt}
	return below, above
}

// noLengths must be refused.
func noLengths(t *testing.T, key, value int, want api.Errno) {
	t.Helper()
	if g, e := header.Lengths(key, value); g != 0 || e != want {
		t.Fatalf("Lengths(%d, %d) is %x, error %d, not %d", key, value, g, e, want)
	}
}

// untold must be a word of no lengths.
func untold(t *testing.T, w uint64) {
	t.Helper()
	if key, value, e := header.Told(w); key != 0 || value != 0 || e != api.ErrForm {
		t.Fatalf("Told(%x) is %d, %d, error %d", w, key, value, e)
	}
}

// tells must be a word of these.
func tells(t *testing.T, w uint64, key, value int) {
	t.Helper()
	if k, v, e := header.Told(w); k != key || v != value || e != api.OK {
		t.Fatalf("Told(%x) is %d, %d, error %d, not %d, %d", w, k, v, e, key, value)
	}
}

func TestLengthsOfTheExample(t *testing.T) {
	if g, e := header.Lengths(3, 8); g != 189850439909379 || e != api.OK {
		t.Error(g, e)
	}
	tells(t, 189850439909379, 3, 8)
}

func TestLengthsByHand(t *testing.T) {
	for _, x := range []struct {
		key, value int
		want       uint64
	}{
		{0, 0, 0x0000acab00000000},
		{1, 0, 0x0000acab00000001},
		{0, 1, 0x0000acab00010000},
		{1, 1, 0x0000acab00010001},
		{64, 0, 0x0000acab00000040},
		{0, 128, 0x0000acab00800000},
		{64, 128, 0x0000acab00800040},
		{63, 127, 0x0000acab007f003f},
		{64, 64, 0x0000acab00400040},
	} {
		if g, e := header.Lengths(x.key, x.value); g != x.want || e != api.OK {
			t.Errorf("Lengths(%d, %d) is %x, error %d, not %x", x.key, x.value, g, e, x.want)
		}
		tells(t, x.want, x.key, x.value)
	}
}

func TestAllLengths(t *testing.T) {
	for key := -3; key <= 140; key++ {
		for value := -3; value <= 140; value++ {
			if key < 0 || value < 0 {
				noLengths(t, key, value, api.ErrArg)
				continue
			}
			if key > 64 || value > 128 {
				noLengths(t, key, value, api.ErrLong)
				continue
			}
			want := uint64(key) + uint64(value)*part + marked
			if g, e := header.Lengths(key, value); g != want || e != api.OK {
				t.Fatalf("Lengths(%d, %d) is %x, error %d, not %x", key, value, g, e, want)
			}
		}
	}
}

func TestLengthsFarOutside(t *testing.T) {
	below, above := outside()
	for _, x := range above {
		for _, right := range []int{0, 1, 64} {
			noLengths(t, x, right, api.ErrLong)
			noLengths(t, right, x, api.ErrLong)
		}
		for _, y := range above {
			noLengths(t, x, y, api.ErrLong)
		}
	}
	for _, x := range below {
		for _, y := range append([]int{0, 1, 64, 65, 128}, append(above, below...)...) {
			// One that is below 0 is told ahead of one that is too long, whichever comes first.
			noLengths(t, x, y, api.ErrArg)
			noLengths(t, y, x, api.ErrArg)
		}
	}
}

func TestToldOfAllLengths(t *testing.T) {
	for key := range uint64(200) {
		for value := range uint64(200) {
			w := key + value*part + marked
			if key <= keyMax && value <= valMax {
				tells(t, w, int(key), int(value))
			} else {
				untold(t, w)
			}
		}
	}
	for far := uint64(129); far < part; far++ {
		untold(t, marked+far)
		untold(t, marked+far*part)
	}
	for i := range 16 {
		if i > 6 {
			untold(t, marked+3+8*part+1<<i)
		}
		if i > 7 {
			untold(t, marked+3+8*part+1<<(16+i))
		}
	}
}

func TestToldWithEachMark(t *testing.T) {
	for n := range part {
		for _, lengths := range []uint64{0, 3 + 8*part, keyMax + valMax*part} {
			if n == 44203 {
				continue
			}
			untold(t, n*round+lengths)
		}
	}
	tells(t, 44203*round, 0, 0)
}

func TestToldWithMoreAbove(t *testing.T) {
	for i := 48; i < 64; i++ {
		for _, lengths := range []uint64{0, 1, part, 3 + 8*part, keyMax + valMax*part} {
			untold(t, marked+lengths+1<<i)
			untold(t, 1<<i)
			untold(t, marked<<(i-47)+lengths)
		}
	}
}

func TestToldOfAnyWord(t *testing.T) {
	for _, w := range anyWords() {
		if w/round == 44203 {
			continue
		}
		untold(t, w)
		// With the mark laid over it, its lengths alone tell.
		key, value := w%part, w/part%part
		if key <= keyMax && value <= valMax {
			tells(t, marked+w%round, int(key), int(value))
		} else {
			untold(t, marked+w%round)
		}
	}
}

func TestToldWithOneBitTurned(t *testing.T) {
	for _, x := range []struct{ key, value uint64 }{{0, 0}, {3, 8}, {64, 128}, {63, 127}} {
		w := x.key + x.value*part + marked
		for i := range 64 {
			turned := w ^ 1<<i
			key, value := turned%part, turned/part%part
			if turned/round == 44203 && key <= keyMax && value <= valMax {
				tells(t, turned, int(key), int(value))
			} else {
				untold(t, turned)
			}
		}
	}
}

// P8.4

func TestWhatIsPackedIsUnpacked(t *testing.T) {
	for _, prev := range prevs() {
		for _, tomb := range yesNo() {
			for _, invalid := range yesNo() {
				h := api.Header{Prev: prev, Tomb: tomb, Invalid: invalid}
				packs(t, h, headerWord(h))
				w, _ := header.Pack(h)
				unpacks(t, w, h)
			}
		}
	}
}

func TestWhatIsUnpackedIsPacked(t *testing.T) {
	right := 0
	for _, w := range anyWords() {
		h, e := header.Unpack(w)
		if e != api.OK {
			continue
		}
		right++
		packs(t, h, w)
	}
	if right < longRun/10 {
		t.Error("only so many words were headers'", right)
	}
}

func TestLengthsThereAndBack(t *testing.T) {
	for key := range 65 {
		for value := range 129 {
			w, e := header.Lengths(key, value)
			if e != api.OK {
				t.Fatal(key, value, e)
			}
			tells(t, w, key, value)
			k, v, _ := header.Told(w)
			if again, e := header.Lengths(k, v); again != w || e != api.OK {
				t.Fatalf("Lengths(%d, %d) is %x, error %d, not %x", k, v, again, e, w)
			}
		}
	}
}

func TestLockAndUnlockManyTimes(t *testing.T) {
	// The second half of the last of them is behind the place where counts go round.
	for _, from := range []uint64{0, 1, 1<<31 - longRun/2, round - longRun/2} {
		w := from
		for i := range uint64(longRun) {
			n := (from + i) % round
			if header.Locked(w) || header.Count(w) != n || w != n {
				t.Fatalf("behind %d times from %d: %x", i, from, w)
			}
			locked, e := header.Lock(w)
			if e != api.OK || !header.Locked(locked) || header.Count(locked) != n {
				t.Fatalf("Lock(%x) is %x, error %d", w, locked, e)
			}
			if w, e = header.Unlock(locked); e != api.OK {
				t.Fatalf("Unlock(%x): error %d", locked, e)
			}
		}
		if want := (from + longRun) % round; w != want {
			t.Errorf("from %d: %x, not %x", from, w, want)
		}
	}
}
