package place_test

import (
	"math"
	"testing"

	"haycroft/api"
	"haycroft/place"
)

const (
	ones = uint64(math.MaxUint64)
	top  = uint64(1)<<48 - 1
)

// wordsOf tells in other words than Size how many words a page has; 0, if there is no such page.
func wordsOf(bits int) uint64 {
	switch bits {
	case 5:
		return 32
	case 6:
		return 64
	case 7:
		return 128
	case 8:
		return 256
	case 9:
		return 512
	}
	return 0
}

// lastPage is the page of the greatest address.
func lastPage(bits int) int {
	return int(top / wordsOf(bits))
}

// pageSizes are all that there are.
func pageSizes() []int {
	return []int{5, 6, 7, 8, 9}
}

// wrongSizes can't be page sizes; some of them would be, if they went round.
func wrongSizes() []int {
	return []int{math.MinInt, math.MinInt + 5, -1 << 32, -256 + 5, -9, -5, -1, 0, 1, 2, 3, 4, 10, 11, 32, 47, 48, 49, 63, 64, 64 + 5, 256 + 5, 1<<32 + 5, math.MaxInt - 1, math.MaxInt}
}

// sampleAddrs are addresses, those around all the bounds of a page size among them.
func sampleAddrs(bits int) []uint64 {
	words := wordsOf(bits)
	l := []uint64{0, 1, 2, 70, 0x123456789abc, 0xaaaaaaaaaaaa, 0x555555555555, 1<<32 - 1, 1 << 32, 1<<47 - 1, 1 << 47, top - words - 1, top - words, top - words + 1, top - words + 2, top - 1, top}
	for _, page := range []uint64{0, 1, 2, 3, 63, 64, 1000, 1<<31 - 1, 1 << 32, 1 << 38} {
		first := page * words
		l = append(l, first, first+1, first+words/2, first+words-2, first+words-1, first+words)
	}
	return l
}

// wrongAddrs are above the greatest address.
func wrongAddrs() []uint64 {
	return []uint64{top + 1, top + 2, top + 33, 1<<48 + 70, 1<<49 - 1, 1 << 62, 1 << 63, 1<<63 + 70, ones - 1, ones}
}

// checkNothing fails, unless an address that has no parts for a page size tells none.
func checkNothing(t *testing.T, bits int, a uint64) {
	t.Helper()
	if page, offset, room := place.Page(bits, a), place.Offset(bits, a), place.Room(bits, a); page != 0 || offset != 0 || room != 0 {
		t.Errorf("%d, %x: page %d, offset %d, room %d", bits, a, page, offset, room)
	}
	for _, n := range []int{math.MinInt, -1, 0, 1, 2, 32, 512, math.MaxInt} {
		if place.Fits(bits, a, n) {
			t.Errorf("Fits(%d, %x, %d)", bits, a, n)
		}
	}
}

// P2.1

func TestConstants(t *testing.T) {
	if place.MinBits != 5 || place.MaxBits != 9 {
		t.Error(place.MinBits, place.MaxBits)
	}
}

func TestMayAndSize(t *testing.T) {
	for _, bits := range pageSizes() {
		if !place.May(bits) || place.Size(bits) != int(wordsOf(bits)) {
			t.Errorf("%d: May %v, Size %d", bits, place.May(bits), place.Size(bits))
		}
	}
	for _, bits := range wrongSizes() {
		if place.May(bits) || place.Size(bits) != 0 {
			t.Errorf("%d: May %v, Size %d", bits, place.May(bits), place.Size(bits))
		}
	}
}

func TestRight(t *testing.T) {
	if place.Right(0) {
		t.Error("Right(0)")
	}
	for _, bits := range pageSizes() {
		for _, a := range sampleAddrs(bits) {
			if place.Right(a) != (a != 0) {
				t.Errorf("Right(%x) = %v", a, place.Right(a))
			}
		}
	}
	for _, a := range wrongAddrs() {
		if place.Right(a) {
			t.Errorf("Right(%x)", a)
		}
	}
}

// P2.2

func TestOf(t *testing.T) {
	for _, bits := range pageSizes() {
		words := wordsOf(bits)
		for _, page := range []int{0, 1, 2, 3, 31, 32, 63, 64, 511, 512, 1 << 31, 1 << 32, 1 << 38, lastPage(bits) - 1, lastPage(bits)} {
			for offset := range int(words) {
				want := uint64(page)*words + uint64(offset)
				if got, e := place.Of(bits, page, offset); got != want || e != api.OK {
					t.Fatalf("Of(%d, %d, %d) = %x, %d, want %x", bits, page, offset, got, e, want)
				}
			}
		}
	}
}

func TestOfByHand(t *testing.T) {
	for _, x := range []struct {
		bits, page, offset int
		want               uint64
	}{
		{5, 2, 6, 70},
		{5, 0, 0, 0},
		{5, 0, 1, 1},
		{5, 0, 31, 31},
		{5, 1, 0, 32},
		{9, 0, 511, 511},
		{9, 1, 0, 512},
		{9, 3, 5, 1541},
		{5, 1<<43 - 1, 31, api.MaxAddr},
		{6, 1<<42 - 1, 63, api.MaxAddr},
		{7, 1<<41 - 1, 127, api.MaxAddr},
		{8, 1<<40 - 1, 255, api.MaxAddr},
		{9, 1<<39 - 1, 511, api.MaxAddr},
		{9, 1<<39 - 1, 0, api.MaxAddr - 511},
	} {
		if got, e := place.Of(x.bits, x.page, x.offset); got != x.want || e != api.OK {
			t.Errorf("Of(%d, %d, %d) = %x, %d, want %x", x.bits, x.page, x.offset, got, e, x.want)
		}
	}
}

func TestOfWrongSize(t *testing.T) {
	for _, bits := range wrongSizes() {
		for _, page := range []int{math.MinInt, -1, 0, 1, 1 << 43, math.MaxInt} {
			for _, offset := range []int{math.MinInt, -1, 0, 1, 512, math.MaxInt} {
				if got, e := place.Of(bits, page, offset); got != 0 || e != api.ErrArg {
					t.Errorf("Of(%d, %d, %d) = %x, %d", bits, page, offset, got, e)
				}
			}
		}
	}
}

func TestOfWrongPageOrOffset(t *testing.T) {
	for _, bits := range pageSizes() {
		words := int(wordsOf(bits))
		for _, page := range []int{math.MinInt, math.MinInt + 1, -1 << 48, -1 << 43, -2, -1} {
			for _, offset := range []int{math.MinInt, -1, 0, 1, words - 1, words, math.MaxInt} {
				if got, e := place.Of(bits, page, offset); got != 0 || e != api.ErrArg {
					t.Errorf("Of(%d, %d, %d) = %x, %d", bits, page, offset, got, e)
				}
			}
		}
		// Pages that are too great among them: what is wrong with the offset is told first.
		for _, page := range []int{0, 1, lastPage(bits), lastPage(bits) + 1, math.MaxInt} {
			for _, offset := range []int{math.MinInt, math.MinInt + 1, -words, -1, words, words + 1, 2 * words, 1 << 32, math.MaxInt - 1, math.MaxInt} {
				if got, e := place.Of(bits, page, offset); got != 0 || e != api.ErrArg {
					t.Errorf("Of(%d, %d, %d) = %x, %d", bits, page, offset, got, e)
				}
			}
		}
	}
}

// tooGreat are pages whose addresses would be above the greatest one, those among them whose lowest bits alone would be one.
func tooGreat(bits int) []int {
	last := lastPage(bits)
	return []int{last + 1, last + 2, 2 * (last + 1), 1 << 48, 1 << 57, 1 << 58, 1 << 59, 1 << 62, math.MaxInt - 1, math.MaxInt}
}

func TestOfTooGreat(t *testing.T) {
	for _, bits := range pageSizes() {
		for _, page := range tooGreat(bits) {
			for _, offset := range []int{0, 1, int(wordsOf(bits)) - 1} {
				if got, e := place.Of(bits, page, offset); got != 0 || e != api.ErrOver {
					t.Errorf("Of(%d, %d, %d) = %x, %d", bits, page, offset, got, e)
				}
			}
		}
	}
}

func TestPageAndOffset(t *testing.T) {
	for _, bits := range pageSizes() {
		words := wordsOf(bits)
		for _, a := range sampleAddrs(bits) {
			if got := place.Page(bits, a); got != int(a/words) {
				t.Errorf("Page(%d, %x) = %d, want %d", bits, a, got, a/words)
			}
			if got := place.Offset(bits, a); got != int(a%words) {
				t.Errorf("Offset(%d, %x) = %d, want %d", bits, a, got, a%words)
			}
		}
	}
	for _, x := range []struct {
		bits         int
		a            uint64
		page, offset int
	}{
		{5, 70, 2, 6},
		{5, 0, 0, 0},
		{5, 1, 0, 1},
		{9, 70, 0, 70},
		{5, api.MaxAddr, 1<<43 - 1, 31},
		{9, api.MaxAddr, 1<<39 - 1, 511},
	} {
		if page, offset := place.Page(x.bits, x.a), place.Offset(x.bits, x.a); page != x.page || offset != x.offset {
			t.Errorf("%d, %x: page %d, offset %d, want %d, %d", x.bits, x.a, page, offset, x.page, x.offset)
		}
	}
}

func TestFirst(t *testing.T) {
	for _, bits := range pageSizes() {
		for _, page := range []int{0, 1, 2, 63, 64, 1 << 32, lastPage(bits) - 1, lastPage(bits)} {
			if got := place.First(bits, page); got != uint64(page)*wordsOf(bits) {
				t.Errorf("First(%d, %d) = %x", bits, page, got)
			}
		}
		for _, page := range append(tooGreat(bits), -1, -2, -1<<43, math.MinInt) {
			if got := place.First(bits, page); got != 0 {
				t.Errorf("First(%d, %d) = %x", bits, page, got)
			}
		}
	}
	for _, bits := range wrongSizes() {
		for _, page := range []int{math.MinInt, -1, 0, 1, 2, 1 << 39, math.MaxInt} {
			if got := place.First(bits, page); got != 0 {
				t.Errorf("First(%d, %d) = %x", bits, page, got)
			}
		}
	}
	if place.First(5, 2) != 64 || place.First(9, 2) != 1024 {
		t.Error(place.First(5, 2), place.First(9, 2))
	}
}

// P2.2 and P2.3

func TestNothingOfWrongAddresses(t *testing.T) {
	for _, bits := range pageSizes() {
		for _, a := range wrongAddrs() {
			checkNothing(t, bits, a)
		}
	}
	for _, bits := range wrongSizes() {
		for _, a := range append(wrongAddrs(), 0, 1, 5, 70, top-1, top) {
			checkNothing(t, bits, a)
		}
	}
}

// P2.3

// roomOf counts the words to the end of a's page one by one.
func roomOf(bits int, a uint64) int {
	n := 1
	for (a+1)%wordsOf(bits) != 0 {
		a++
		n++
	}
	return n
}

func TestRoom(t *testing.T) {
	for _, bits := range pageSizes() {
		for _, a := range sampleAddrs(bits) {
			if got := place.Room(bits, a); got != roomOf(bits, a) {
				t.Errorf("Room(%d, %x) = %d, want %d", bits, a, got, roomOf(bits, a))
			}
		}
	}
	for _, x := range []struct {
		bits int
		a    uint64
		want int
	}{
		{5, 70, 26},
		{5, 0, 32},
		{5, 1, 31},
		{5, 31, 1},
		{5, 32, 32},
		{9, 0, 512},
		{9, 511, 1},
		{9, 512, 512},
		{5, api.MaxAddr, 1},
		{9, api.MaxAddr, 1},
		{9, api.MaxAddr - 511, 512},
	} {
		if got := place.Room(x.bits, x.a); got != x.want {
			t.Errorf("Room(%d, %x) = %d, want %d", x.bits, x.a, got, x.want)
		}
	}
}

func TestFits(t *testing.T) {
	for _, bits := range pageSizes() {
		for _, a := range sampleAddrs(bits) {
			room := roomOf(bits, a)
			for _, n := range []int{1, room/2 + 1, room - 1, room} {
				if n >= 1 && !place.Fits(bits, a, n) {
					t.Errorf("not Fits(%d, %x, %d)", bits, a, n)
				}
			}
			for _, n := range []int{math.MinInt, math.MinInt + 1, -room, -1, 0, room + 1, room + 512, 1 << 32, 1<<32 + 1, 1 << 48, math.MaxInt - 1, math.MaxInt} {
				if place.Fits(bits, a, n) {
					t.Errorf("Fits(%d, %x, %d)", bits, a, n)
				}
			}
		}
	}
}

func TestAdd(t *testing.T) {
	for _, x := range []struct {
		a    uint64
		n    int
		want uint64
	}{
		{0, 0, 0},
		{0, 1, 1},
		{1, 0, 1},
		{31, 1, 32},
		{70, 26, 96},
		{64, 1 << 40, 64 + 1<<40},
		{0, api.MaxAddr, api.MaxAddr},
		{1, api.MaxAddr - 1, api.MaxAddr},
		{1 << 47, 1<<47 - 1, api.MaxAddr},
		{api.MaxAddr - 1, 0, api.MaxAddr - 1},
		{api.MaxAddr - 1, 1, api.MaxAddr},
		{api.MaxAddr, 0, api.MaxAddr},
	} {
		if got, e := place.Add(x.a, x.n); got != x.want || e != api.OK {
			t.Errorf("Add(%x, %d) = %x, %d, want %x", x.a, x.n, got, e, x.want)
		}
	}
}

func TestAddWrong(t *testing.T) {
	for _, a := range append(wrongAddrs(), 0, 1, top) {
		for _, n := range []int{math.MinInt, math.MinInt + 1, -1 << 48, -2, -1} {
			if got, e := place.Add(a, n); got != 0 || e != api.ErrArg {
				t.Errorf("Add(%x, %d) = %x, %d", a, n, got, e)
			}
		}
	}
	// Sums that are too great among them: what is wrong with the address is told first.
	for _, a := range wrongAddrs() {
		for _, n := range []int{0, 1, 70, 1 << 48, math.MaxInt} {
			if got, e := place.Add(a, n); got != 0 || e != api.ErrArg {
				t.Errorf("Add(%x, %d) = %x, %d", a, n, got, e)
			}
		}
	}
}

func TestAddTooGreat(t *testing.T) {
	for _, a := range []uint64{0, 1, 2, 70, 1 << 47, top - 1, top} {
		rest := int(top - a)
		for _, n := range []int{rest + 1, rest + 2, rest + 1<<48, 1 << 62, math.MaxInt - 1, math.MaxInt} {
			if got, e := place.Add(a, n); got != 0 || e != api.ErrOver {
				t.Errorf("Add(%x, %d) = %x, %d", a, n, got, e)
			}
		}
	}
}

// P2.4

func TestOfTheParts(t *testing.T) {
	for _, bits := range pageSizes() {
		for _, a := range sampleAddrs(bits) {
			if got, e := place.Of(bits, place.Page(bits, a), place.Offset(bits, a)); got != a || e != api.OK {
				t.Errorf("%d: the parts of %x make %x, %d", bits, a, got, e)
			}
		}
	}
}

func TestLastWord(t *testing.T) {
	for _, bits := range pageSizes() {
		for _, page := range []int{0, 1, 2, 63, 64, 1 << 32, lastPage(bits) - 1} {
			last, e := place.Of(bits, page, place.Size(bits)-1)
			if e != api.OK || place.Room(bits, last) != 1 {
				t.Fatalf("%d: page %d ends at %x, %d, with a room of %d", bits, page, last, e, place.Room(bits, last))
			}
			next, e := place.Add(last, 1)
			if e != api.OK || next != place.First(bits, page+1) || place.Page(bits, next) != page+1 || place.Offset(bits, next) != 0 {
				t.Errorf("%d: behind page %d stands %x, %d", bits, page, next, e)
			}
		}
		last, e := place.Of(bits, lastPage(bits), place.Size(bits)-1)
		if e != api.OK || last != api.MaxAddr || place.Room(bits, last) != 1 {
			t.Errorf("%d: the last page ends at %x, %d, with a room of %d", bits, last, e, place.Room(bits, last))
		}
		if got, e := place.Add(last, 1); got != 0 || e != api.ErrOver {
			t.Errorf("%d: behind the last page stands %x, %d", bits, got, e)
		}
	}
}
