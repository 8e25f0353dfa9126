package index_test

import (
	"fmt"
	"math"
	"slices"
	"testing"

	"haycroft/api"
	"haycroft/index"
	"haycroft/mix"
)

// strangers are numbers that are far from all that may be; or, in 32 bits, are not.
var strangers = []int{math.MinInt, math.MinInt + 1, math.MinInt32, -1 << 32, -1<<32 + 1, -1024, -64, -8, -2, -1, 1 << 16, math.MaxInt32, 1 << 32, 1<<32 + 1, 1<<32 + 8, math.MaxInt - 1, math.MaxInt}

// told lays out what calls tell.
func told(all ...any) string { return fmt.Sprint(all...) }

// is: a look tells this.
func (r *run) is(h uint64, want api.Look) {
	r.t.Helper()
	if l := r.look(h); l != want {
		r.t.Fatalf("Look(%x) tells %+v, not %+v", h, l, want)
	}
}

// chain: of a bucket there are these.
func (r *run) chain(b int, want ...int) {
	r.t.Helper()
	if l := r.x.Chain(b); !slices.Equal(l, want) {
		r.t.Fatalf("Chain(%d) is %v, not %v", b, l, want)
	}
}

// entries: there are these.
func (r *run) entries(want ...uint64) {
	r.t.Helper()
	if l := r.x.Entries(); !slices.Equal(l, want) {
		r.t.Fatalf("Entries are %x, not %x", l, want)
	}
}

// counts: so many tries won, so many lost.
func (r *run) counts(won, lost int) {
	r.t.Helper()
	if a, b := r.x.Counts(); a != won || b != lost {
		r.t.Fatalf("Counts are %d and %d, not %d and %d", a, b, won, lost)
	}
}

func TestNumbersOfLooks(t *testing.T) {
	if l := []int{api.LookNone, api.LookFound, api.LookFree, api.LookGrow, api.BucketSlots, api.MaxSpare, mix.MaxBuckets}; !slices.Equal(l, []int{0, found, free, grow, slots, mostSpare, mostBuckets}) {
		t.Fatal(l)
	}
}

// The example of the chapter.
func TestExample(t *testing.T) {
	r := made(t, 1, 0)
	for _, h := range []uint64{0, 1, 5, 1 << 50, 0xc9e787bc5a35140a, math.MaxUint64} {
		r.is(h, api.Look{Kind: free})
	}
	h := mix.Key("k")
	r.claim(0, h, true, ok)
	r.is(h, api.Look{Kind: found, Word: fresh(12921)})
	r.stands()
}

// A nil index: ErrNil, 0, false, nothing, whatever it is handed.
func TestNil(t *testing.T) {
	var x *index.Index
	for _, n := range append([]int{0, 1, 7, 8}, strangers...) {
		l, e := x.Look(uint64(n))
		if l != (api.Look{}) || e != errNil {
			t.Error("Look", n, l, e)
		}
		if won, e := x.Claim(n, 1); won || e != errNil {
			t.Error("Claim", n, won, e)
		}
		if won, e := x.Link(n, n); won || e != errNil {
			t.Error("Link", n, won, e)
		}
		for _, old := range []uint64{0, 1, fresh(1), points(1, 1)} {
			for _, addr := range []uint64{0, 1, addrs - 1, addrs} {
				if won, e := x.Turn(n, old, addr); won || e != errNil {
					t.Error("Turn", n, old, addr, won, e)
				}
			}
		}
		if w := x.Load(n); w != 0 {
			t.Error("Load", n, w)
		}
		if l := x.Chain(n); len(l) != 0 {
			t.Error("Chain", n, l)
		}
	}
	for _, l := range [][]uint64{nil, {}, {0}, make([]uint64, 9)} {
		if e := x.Fill(l); e != errNil {
			t.Error("Fill", l, e)
		}
	}
	if n, e := x.Spare(); n != 0 || e != errNil {
		t.Error("Spare", n, e)
	}
	if len(x.Entries()) != 0 || len(x.Words()) != 0 || x.Drop() != 0 {
		t.Error(x.Entries(), x.Words(), x.Drop())
	}
	if won, lost := x.Counts(); won != 0 || lost != 0 {
		t.Error(won, lost)
	}
}

// P17.1

func TestNew(t *testing.T) {
	for n := 1; n <= 1024; n *= 2 {
		for _, spare := range []int{0, 1, 2, 3, 8, 63, 64} {
			r := made(t, n, spare)
			r.words()
			r.counts(0, 0)
			r.entries()
			if l := r.x.Words(); len(l) != 1+8*(n+spare) || slices.Max(l) != 0 {
				t.Fatalf("New(%d, %d): Words are %v", n, spare, l)
			}
			r.is(number(3, n-1), api.Look{Kind: free, Slot: 8 * (n - 1), Bucket: n - 1})
			r.is(number(3, 0)+uint64(n), api.Look{Kind: free})
			for b := range n + spare {
				r.chain(b, b)
			}
			r.chain(n + spare)
			r.chain(-1)
			r.claim(8*(n+spare)-2, 0, true, ok)
			r.claim(8*(n+spare)-1, 0, false, errArg)
			r.claim(8*(n+spare), 0, false, errArg)
		}
	}
}

func TestNewRefuses(t *testing.T) {
	no := func(n, spare int) {
		t.Helper()
		if x, e := index.New(n, spare); x != nil || e != errArg {
			t.Errorf("New(%d, %d) tells %v, %d", n, spare, x, e)
		}
	}
	wrong := []int{0, 3, 5, 6, 7, 9, 15, 17, 24, 63, 65, 96, 127, 1000, 1022, 1023, 1025, 1026, 1536, 2047, 2048, 4096, 8192, 1 << 20, 1 << 61, 1 << 62}
	for _, n := range append(wrong, strangers...) {
		for _, spare := range []int{0, 1, 64, 65, -1} {
			no(n, spare)
		}
	}
	for _, spare := range append([]int{65, 66, 128, 1024}, strangers...) {
		for _, n := range []int{1, 2, 16, 512, 1024, 0, 3} {
			no(n, spare)
		}
	}
}

func TestLookWhereATagStands(t *testing.T) {
	r := made(t, 2, 3)
	r.full(0, 10, 17, none)
	r.is(number(10, 0), api.Look{Kind: found, Slot: 0, Word: points(10, 110)})
	r.is(number(13, 0), api.Look{Kind: found, Slot: 3, Word: points(13, 113)})
	r.is(number(16, 0), api.Look{Kind: found, Slot: 6, Word: points(16, 116)})
	r.is(number(17, 0), api.Look{Kind: grow, Bucket: 0})
	// In another bucket's chain it doesn't count.
	r.is(number(10, 1), api.Look{Kind: free, Slot: 8, Bucket: 1})
	r.is(number(16, 3), api.Look{Kind: free, Slot: 8, Bucket: 1})
	r.spare(2, ok)
	r.link(0, 2, true, ok)
	r.is(number(17, 0), api.Look{Kind: free, Slot: 16, Bucket: 2})
	r.is(number(16, 0), api.Look{Kind: found, Slot: 6, Word: points(16, 116), Bucket: 2})
	r.put(number(17, 0), 0)
	r.is(number(17, 0), api.Look{Kind: found, Slot: 16, Word: fresh(17), Bucket: 2})
	r.is(number(18, 0), api.Look{Kind: free, Slot: 17, Bucket: 2})
	r.full(0, 18, 24, all)
	r.is(number(23, 0), api.Look{Kind: found, Slot: 22, Word: fresh(23), Bucket: 2})
	r.is(number(24, 0), api.Look{Kind: grow, Bucket: 2})
	r.spare(3, ok)
	r.link(2, 3, true, ok)
	r.is(number(24, 0), api.Look{Kind: free, Slot: 24, Bucket: 3})
	r.is(number(10, 0), api.Look{Kind: found, Slot: 0, Word: points(10, 110), Bucket: 3})
	r.is(number(17, 0), api.Look{Kind: found, Slot: 16, Word: fresh(17), Bucket: 3})
	r.full(0, 24, 31, none)
	r.is(number(30, 0), api.Look{Kind: found, Slot: 30, Word: points(30, 130), Bucket: 3})
	r.is(number(31, 0), api.Look{Kind: grow, Bucket: 3})
	r.is(number(10, 1), api.Look{Kind: free, Slot: 8, Bucket: 1})
	r.stands()
}

// The last slot of all is looked at, too: of a chain that has each spare bucket.
func TestLookAlongTheLongestChain(t *testing.T) {
	for _, n := range []int{1, 4, 1024} {
		r := made(t, n, 64)
		last := n - 1
		r.full(last, 0, 65*7, none)
		r.is(number(65*7-1, last), api.Look{Kind: found, Slot: 8*(n+63) + 6, Word: points(65*7-1, 65*7+99), Bucket: n + 63})
		r.is(number(65*7, last), api.Look{Kind: grow, Bucket: n + 63})
		r.spare(0, errFull)
		if l := r.x.Chain(last); len(l) != 65 || l[64] != n+63 {
			t.Fatal(l)
		}
		r.words()
		r.parted()
	}
}

// Tags and buckets are those of mix: the highest 14 bits, and the rest.
func TestLookOfEachBitOfANumber(t *testing.T) {
	for bit := range 64 {
		r := made(t, 1024, 0)
		r.put(0, 0)
		h := uint64(1) << bit
		want := api.Look{Kind: found, Word: fresh(0)}
		if bit < 10 {
			want = api.Look{Kind: free, Slot: 8 << bit, Bucket: 1 << bit}
		}
		if bit >= 50 {
			want = api.Look{Kind: free, Slot: 1}
		}
		r.is(h, want)
		if want.Kind == free {
			r.claim(want.Slot, h, true, ok)
			tag := uint64(0)
			if bit >= 50 {
				tag = 1 << (bit - 50)
			}
			r.is(h, api.Look{Kind: found, Slot: want.Slot, Word: fresh(tag), Bucket: want.Bucket})
		}
		r.words()
	}
}

// Slots that weren't claimed as Look tells: the first one with the tag is told, whatever is free ahead of it; else the first free one.
func TestLookOfSlotsInAnyOrder(t *testing.T) {
	r := made(t, 1, 2)
	r.spare(1, ok)
	r.spare(2, ok)
	r.link(0, 2, true, ok)
	r.link(2, 1, true, ok)
	r.claim(8+5, number(4, 0), true, ok)
	r.is(number(4, 0), api.Look{Kind: found, Slot: 13, Word: fresh(4), Bucket: 1})
	r.is(number(5, 0), api.Look{Kind: free, Slot: 0, Bucket: 1})
	r.claim(16+6, number(4, 0), true, ok)
	r.is(number(4, 0), api.Look{Kind: found, Slot: 22, Word: fresh(4), Bucket: 1})
	r.claim(3, number(4, 0), true, ok)
	r.is(number(4, 0), api.Look{Kind: found, Slot: 3, Word: fresh(4), Bucket: 1})
	r.claim(1, number(4, 0), true, ok)
	r.is(number(4, 0), api.Look{Kind: found, Slot: 1, Word: fresh(4), Bucket: 1})
	for _, slot := range []int{0, 2, 4, 5, 6} {
		r.is(number(7, 0), api.Look{Kind: free, Slot: slot, Bucket: 1})
		r.claim(slot, number(6, 0), true, ok)
	}
	r.is(number(7, 0), api.Look{Kind: free, Slot: 16, Bucket: 1})
	for k := range 6 {
		r.claim(16+k, number(6, 0), true, ok)
	}
	// Of the chain's order, not of the slots' numbers.
	r.is(number(7, 0), api.Look{Kind: free, Slot: 8, Bucket: 1})
	r.stands()
}

// A tag of 0, of a free slot's neighbours, is no free slot's.
func TestLookOfTheTagNought(t *testing.T) {
	r := made(t, 1, 0)
	r.is(0, api.Look{Kind: free})
	r.put(number(1, 0), 5)
	r.is(0, api.Look{Kind: free, Slot: 1})
	r.put(0, 0)
	r.is(0, api.Look{Kind: found, Slot: 1, Word: fresh(0)})
	r.turn(1, fresh(0), 1, true, ok)
	r.is(0, api.Look{Kind: found, Slot: 1, Word: points(0, 1)})
	r.stands()
}

func TestLoad(t *testing.T) {
	r := made(t, 4, 2)
	tag := uint64(1)
	for slot := range 48 {
		if slot%8 == 7 {
			r.claim(slot, number(tag, 0), false, errArg)
			continue
		}
		r.claim(slot, number(tag, 0), true, ok)
		tag++
	}
	r.spare(4, ok)
	r.spare(5, ok)
	r.link(0, 4, true, ok)
	r.link(4, 5, true, ok)
	tag = 1
	for slot := range 48 {
		want := uint64(0)
		if slot%8 != 7 {
			want = fresh(tag)
			tag++
		}
		if w := r.x.Load(slot); w != want {
			t.Fatalf("Load(%d) is %x, not %x", slot, w, want)
		}
	}
	for _, slot := range append([]int{-1, -2, -8, -9, 48, 49, 50, 55, 56}, strangers...) {
		if w := r.x.Load(slot); w != 0 {
			t.Fatalf("Load(%d) is %x", slot, w)
		}
	}
	r.stands()
}

// P17.2

func TestClaim(t *testing.T) {
	r := made(t, 2, 1)
	r.claim(0, number(9, 0), true, ok)
	r.claim(0, number(9, 0), false, ok)
	r.claim(0, number(8, 0), false, ok)
	r.turn(0, fresh(9), 70, true, ok)
	r.claim(0, number(9, 0), false, ok)
	r.counts(2, 3)
	// Of any bucket's number, in any slot: also of a spare bucket that nobody took.
	r.claim(8, number(9, 0), true, ok)
	r.claim(23-1, number(16383, 1), true, ok)
	r.claim(22, number(16383, 1), false, ok)
	for _, slot := range append([]int{7, 15, 23, 24, 25, 30, 31, 32, -1, -8, -7, -9}, strangers...) {
		r.claim(slot, number(9, 0), false, errArg)
	}
	r.counts(4, 4)
	r.entries(points(9, 70), fresh(9))
	r.stands()
}

// What a claimed slot has is the number's tag alone.
func TestClaimOfEachTag(t *testing.T) {
	r := made(t, 1024, 64)
	for i := range 7000 {
		slot, tag := i+i/7, uint64(i*5%16384)
		h := number(tag, i) + tagUnit/2
		r.claim(slot, h, true, ok)
		if w := r.x.Load(slot); w != fresh(tag) {
			t.Fatalf("slot %d has %x, not %x", slot, w, fresh(tag))
		}
	}
	r.words()
}

func TestTurn(t *testing.T) {
	r := made(t, 1, 1)
	r.claim(2, number(5, 0), true, ok)
	r.turn(2, fresh(5), 99, true, ok)
	r.turn(2, points(5, 99), addrs-1, true, ok)
	r.turn(2, points(5, addrs-1), 1, true, ok)
	// From what is there to what is there: it wins, and nothing turns.
	r.turn(2, points(5, 1), 1, true, ok)
	// From another word: of another address, of another tag, fresh.
	r.turn(2, points(5, 2), 7, false, ok)
	r.turn(2, points(4, 1), 7, false, ok)
	r.turn(2, fresh(5), 7, false, ok)
	// Of a slot that is free.
	r.turn(3, fresh(5), 7, false, ok)
	r.turn(14, points(5, 1), 7, false, ok)
	r.counts(5, 5)
	for _, addr := range []uint64{0, addrs, addrs + 1, addrs + 7, 1 << 50, 1 << 62, 1 << 63, math.MaxUint64} {
		r.turn(2, points(5, 1), addr, false, errArg)
		r.turn(2, points(5, 2), addr, false, errArg)
		r.turn(3, fresh(5), addr, false, errArg)
	}
	for _, addr := range []uint64{0, 1, 7, addrs - 1, addrs, math.MaxUint64} {
		r.turn(2, 0, addr, false, errNone)
		r.turn(3, 0, addr, false, errNone)
		for _, old := range []uint64{1, addrs, points(5, 1) - isTaken, isTaken, isTaken + addrs, points(5, 1) + isFresh, isFresh, fresh(5) - isTaken, math.MaxUint64} {
			r.turn(2, old, addr, false, errForm)
		}
		for _, slot := range append([]int{7, 15, 16, 17, -1, -6}, strangers...) {
			for _, old := range []uint64{0, 1, points(5, 1), fresh(5)} {
				r.turn(slot, old, addr, false, errArg)
			}
		}
	}
	r.counts(5, 5)
	r.entries(points(5, 1))
	r.stands()
}

func TestSpare(t *testing.T) {
	for _, n := range []int{1, 2, 8, 1024} {
		for _, spare := range []int{0, 1, 2, 63, 64} {
			r := made(t, n, spare)
			for i := range spare {
				if got := r.x.Words()[0]; got != uint64(i) {
					t.Fatal(got, i)
				}
				r.spare(n+i, ok)
			}
			for range 3 {
				r.spare(0, errFull)
			}
			if got := r.x.Words()[0]; got != uint64(spare) {
				t.Fatal(got, spare)
			}
			// To take one is no try.
			r.counts(0, 0)
			r.words()
		}
	}
}

func TestLink(t *testing.T) {
	r := made(t, 2, 4)
	for b := -1; b <= 6; b++ {
		for s := -1; s <= 6; s++ {
			r.link(b, s, false, errArg)
		}
	}
	r.spare(2, ok)
	r.link(0, 3, false, errArg)
	r.link(2, 2, false, errArg)
	r.link(0, 1, false, errArg)
	r.link(1, 0, false, errArg)
	r.link(0, 0, false, errArg)
	for _, n := range append([]int{6, 7, 8}, strangers...) {
		r.link(n, 2, false, errArg)
		r.link(0, n, false, errArg)
		r.link(n, n, false, errArg)
	}
	r.link(0, 2, true, ok)
	r.chain(0, 0, 2)
	r.link(1, 2, false, errArg)
	r.link(0, 2, false, errArg)
	r.spare(3, ok)
	// The bucket links to another one already.
	r.link(0, 3, false, ok)
	r.counts(1, 1)
	r.link(2, 3, true, ok)
	r.chain(0, 0, 2, 3)
	r.link(2, 3, false, errArg)
	// The chain would lead round.
	r.link(3, 2, false, errArg)
	r.link(3, 3, false, errArg)
	r.spare(4, ok)
	r.spare(5, ok)
	r.link(4, 5, true, ok)
	r.link(5, 4, false, errArg)
	r.chain(4, 4, 5)
	r.link(3, 4, true, ok)
	r.chain(0, 0, 2, 3, 4, 5)
	r.chain(1, 1)
	r.chain(3, 3, 4, 5)
	for b := range 6 {
		for s := range 6 {
			r.link(b, s, false, errArg)
		}
	}
	r.counts(4, 1)
	r.stands()
}

// Longer ways round: each bucket of a chain is refused behind its last one.
func TestLinkRound(t *testing.T) {
	r := made(t, 1, 64)
	for s := range 64 {
		r.spare(1+s, ok)
	}
	for s := 1; s < 64; s++ {
		r.link(s+1, s, true, ok)
		r.link(1, s+1, false, errArg)
		for k := 1; k <= s+1; k++ {
			r.link(k, s+1, false, errArg)
		}
	}
	r.link(0, 64, true, ok)
	if l := r.x.Chain(0); len(l) != 65 || l[1] != 64 || l[64] != 1 {
		t.Fatal(l)
	}
	r.stands()
}

// There is a bucket, though nobody took it: it may have a link, but none may lead to it.
func TestLinkOfASpareBucketThatNobodyTook(t *testing.T) {
	r := made(t, 1, 2)
	r.spare(1, ok)
	r.link(0, 2, false, errArg)
	r.link(2, 1, true, ok)
	r.chain(2, 2, 1)
	r.chain(0, 0)
	r.link(0, 1, false, errArg)
	r.spare(2, ok)
	r.link(0, 2, true, ok)
	r.chain(0, 0, 2, 1)
	r.stands()
}

// P17.3

func TestChain(t *testing.T) {
	r := made(t, 4, 3)
	for b := range 7 {
		r.chain(b, b)
	}
	for _, b := range append([]int{7, 8, 56}, strangers...) {
		r.chain(b)
	}
	for s := range 3 {
		r.spare(4+s, ok)
		r.chain(4+s, 4+s)
	}
	r.link(1, 6, true, ok)
	r.link(6, 4, true, ok)
	r.chain(0, 0)
	r.chain(1, 1, 6, 4)
	r.chain(6, 6, 4)
	r.chain(4, 4)
	r.chain(5, 5)
	l := r.x.Chain(1)
	l[1] = 99
	r.chain(1, 1, 6, 4)
	r.stands()
}

// The words of all entries, by chains: those of a spare bucket where its chain has it.
func TestEntriesAndWords(t *testing.T) {
	r := made(t, 2, 2)
	r.stands()
	r.put(number(1, 1), 0)
	r.entries(fresh(1))
	r.put(number(2, 0), 7)
	r.entries(points(2, 7), fresh(1))
	r.spare(2, ok)
	r.spare(3, ok)
	r.claim(3*8+4, number(3, 0), true, ok)
	r.claim(2*8+6, number(4, 0), true, ok)
	// They stand in no chain.
	r.entries(points(2, 7), fresh(1))
	r.link(0, 3, true, ok)
	r.entries(points(2, 7), fresh(3), fresh(1))
	r.link(3, 2, true, ok)
	r.entries(points(2, 7), fresh(3), fresh(4), fresh(1))
	want := make([]uint64, 33)
	want[0] = 2
	want[1], want[8] = points(2, 7), 4
	want[1+8] = fresh(1)
	want[1+2*8+6] = fresh(4)
	want[1+3*8+4], want[1+3*8+7] = fresh(3), 3
	if l := r.x.Words(); !slices.Equal(l, want) {
		t.Fatalf("Words are %x, not %x", l, want)
	}
	r.stands()
}

// Behind each call, of those that do something and those that are refused, the lists tell the same as the model.
func TestListsBehindEachCall(t *testing.T) {
	r := made(t, 1, 2)
	h := number(5, 0)
	calls := []func(){
		func() { r.claim(0, h, true, ok) },
		func() { r.claim(0, h, false, ok) },
		func() { r.claim(7, h, false, errArg) },
		func() { r.turn(0, fresh(5), 70, true, ok) },
		func() { r.turn(0, fresh(5), 71, false, ok) },
		func() { r.turn(0, fresh(5), 0, false, errArg) },
		func() { r.spare(1, ok) },
		func() { r.link(0, 1, true, ok) },
		func() { r.spare(2, ok) },
		func() { r.link(0, 2, false, ok) },
		func() { r.link(1, 1, false, errArg) },
		func() { r.spare(0, errFull) },
		func() { r.claim(8, h, true, ok) },
		func() { r.fill(nil, errForm) },
		func() { r.fill(r.x.Words(), ok) },
		func() { r.drop(1) },
		func() { r.drop(0) },
		func() { r.spare(1, ok) },
	}
	for _, call := range calls {
		call()
		r.stands()
	}
	r.counts(4, 3)
}

// What is told is new memory.
func TestAnswersAreNew(t *testing.T) {
	r := made(t, 1, 1)
	r.full(0, 1, 9, none)
	for range 2 {
		for _, l := range [][]uint64{r.x.Words(), r.x.Entries()} {
			for i := range l {
				l[i] = 12345
			}
			l = append(l, 6)
			l[0]++
		}
		for i := range r.x.Chain(0) {
			r.x.Chain(0)[i] = 5
		}
		r.stands()
	}
}

func TestFill(t *testing.T) {
	r := made(t, 2, 3)
	r.full(0, 1, 16, none)
	r.full(1, 1, 4, all)
	l := r.x.Words()
	spent := append(slices.Clone(l), 1, 2, 3)[:len(l)]
	for range 2 {
		r.fill(r.x.Words(), ok)
		r.stands()
	}
	y := made(t, 2, 3)
	y.fill(spent, ok)
	y.stands()
	if !slices.Equal(y.x.Words(), l) || !slices.Equal(y.x.Entries(), r.x.Entries()) {
		t.Fatal("it isn't as the other one")
	}
	if tail := spent[:len(l)+3]; tail[len(l)] != 1 || tail[len(l)+2] != 3 {
		t.Fatal("its spare room turned")
	}
	// Tries of another index don't count.
	y.counts(0, 0)
	// It is not kept.
	for i := range spent {
		spent[i] = 77
	}
	y.stands()
	// From there on it goes its own way.
	y.spare(4, ok)
	y.link(3, 4, true, ok)
	y.put(number(100, 0), 3)
	y.stands()
	r.stands()
	y.fill(make([]uint64, 41), ok)
	y.entries()
	y.chain(0, 0)
	y.spare(2, ok)
	y.counts(3, 0)
	y.stands()
}

func TestFillRefuses(t *testing.T) {
	r := made(t, 2, 3)
	r.full(0, 1, 9, none)
	r.put(number(3, 1), 0)
	l := r.x.Words()
	for _, wrong := range [][]uint64{nil, {}, {0}, {1}, l[:len(l)-1], l[1:], append(slices.Clone(l), 0), append([]uint64{0}, l...), l[:8], l[:9], l[:33], append(slices.Clone(l), make([]uint64, 8)...), append(slices.Clone(l), l...), make([]uint64, 40), make([]uint64, 42), make([]uint64, 9000)} {
		r.fill(wrong, errForm)
		r.stands()
	}
	for _, n := range []uint64{4, 5, 64, 65, 1 << 32, 1<<32 + 1, 1 << 63, 1<<63 + 1, math.MaxUint64 - 1, math.MaxUint64} {
		wrong := slices.Clone(l)
		wrong[0] = n
		r.fill(wrong, errForm)
		r.fill(wrong[:40], errForm)
		r.stands()
	}
	for _, n := range []uint64{1, 2, 3} {
		right := slices.Clone(l)
		right[0] = n
		r.fill(right, ok)
		r.stands()
	}
	r.spare(0, errFull)
	none := made(t, 4, 0)
	none.fill([]uint64{1}, errForm)
	none.fill(append([]uint64{1}, make([]uint64, 32)...), errForm)
	none.fill(make([]uint64, 33), ok)
	none.stands()
}

func TestCounts(t *testing.T) {
	r := made(t, 1, 2)
	r.counts(0, 0)
	r.claim(0, 1, true, ok)
	r.counts(1, 0)
	r.claim(0, 1, false, ok)
	r.counts(1, 1)
	r.turn(0, fresh(0), 5, true, ok)
	r.counts(2, 1)
	r.turn(0, fresh(0), 5, false, ok)
	r.counts(2, 2)
	r.spare(1, ok)
	r.spare(2, ok)
	r.spare(0, errFull)
	r.counts(2, 2)
	r.link(0, 1, true, ok)
	r.counts(3, 2)
	r.link(0, 2, false, ok)
	r.counts(3, 3)
	// What is refused is no try.
	r.claim(7, 1, false, errArg)
	r.claim(-1, 1, false, errArg)
	r.turn(7, fresh(0), 5, false, errArg)
	r.turn(0, points(0, 5), 0, false, errArg)
	r.turn(0, 0, 5, false, errNone)
	r.turn(0, 5, 5, false, errForm)
	r.link(0, 1, false, errArg)
	r.link(3, 2, false, errArg)
	r.look(1)
	r.x.Words()
	r.counts(3, 3)
	// Neither Fill nor Drop tries anything, nor forgets what was tried.
	r.fill(r.x.Words(), ok)
	r.fill(nil, errForm)
	r.counts(3, 3)
	r.full(0, 1, 12, none)
	r.counts(25, 3)
	r.drop(0)
	r.counts(25, 3)
	r.stands()
}
