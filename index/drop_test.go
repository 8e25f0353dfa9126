package index_test

import (
	"slices"
	"testing"
)

// lays: behind a Drop the words are these: how many spare buckets are taken, then of each bucket its slots, and its link.
func (r *run) lays(taken uint64, all ...bucket) {
	r.t.Helper()
	want := []uint64{taken}
	for _, b := range all {
		want = append(append(want, b.slots[:]...), uint64(b.link))
	}
	want = append(want, make([]uint64, 1+8*len(r.m.all)-len(want))...)
	if l := r.x.Words(); !slices.Equal(l, want) {
		r.t.Fatalf("Words are %x, not %x", l, want)
	}
	r.stands()
	r.parted()
}

// row is a bucket of entries that point somewhere, of tags from one on, each at the tag and 100; link is the word.
func row(link int, tags ...uint64) bucket {
	b := bucket{link: link}
	for k, tag := range tags {
		b.slots[k] = points(tag, tag+100)
	}
	return b
}

// not: all tags but these.
func not(l ...uint64) func(uint64) bool {
	return func(tag uint64) bool { return !slices.Contains(l, tag) }
}

// these: these tags.
func these(l ...uint64) func(uint64) bool {
	return func(tag uint64) bool { return slices.Contains(l, tag) }
}

// P17.4

func TestDropOfNothing(t *testing.T) {
	for _, n := range []int{1, 2, 1024} {
		for _, spare := range []int{0, 1, 64} {
			r := made(t, n, spare)
			r.drop(0)
			r.drop(0)
			r.words()
			if spare > 0 {
				r.spare(n, ok)
				r.drop(0)
				r.spare(n, ok)
			}
			r.words()
		}
	}
}

func TestDropOfFreshOnesAlone(t *testing.T) {
	r := made(t, 2, 2)
	r.full(0, 1, 4, all)
	r.full(1, 1, 8, all)
	r.drop(10)
	r.lays(0)
	// Of a chain, too: its spare buckets go.
	r.full(1, 1, 20, all)
	r.chain(1, 1, 2, 3)
	r.drop(19)
	r.lays(0)
	r.drop(0)
	r.lays(0)
	r.full(0, 1, 22, all)
	r.chain(0, 0, 2, 3)
	r.counts(10+19+2+21+2, 0)
}

func TestDropOfOnesThatPointSomewhere(t *testing.T) {
	r := made(t, 1, 1)
	r.full(0, 1, 11, none)
	was := r.x.Words()
	r.drop(0)
	if l := r.x.Words(); !slices.Equal(l, was) {
		t.Fatalf("Words are %x, not %x", l, was)
	}
	r.lays(1, row(2, 1, 2, 3, 4, 5, 6, 7), row(0, 8, 9, 10))
}

func TestDropOfFreshOnesBetweenOthers(t *testing.T) {
	r := made(t, 2, 1)
	r.full(0, 1, 8, these(1, 3, 4, 7))
	r.full(1, 1, 6, these(5))
	r.drop(5)
	r.lays(0, row(0, 2, 5, 6), row(0, 1, 2, 3, 4))
	r.put(number(9, 0), 109)
	r.drop(0)
	r.lays(0, row(0, 2, 5, 6, 9), row(0, 1, 2, 3, 4))
}

// One of the first slot, one of the last, one of each slot alone.
func TestDropOfOneAlone(t *testing.T) {
	for tag := uint64(1); tag <= 14; tag++ {
		r := made(t, 1, 1)
		r.full(0, 1, 15, these(tag))
		r.drop(1)
		var left []uint64
		for k := uint64(1); k <= 14; k++ {
			if k != tag {
				left = append(left, k)
			}
		}
		r.lays(1, row(2, left[:7]...), row(0, left[7:]...))
		r = made(t, 1, 1)
		r.full(0, 1, 15, not(tag))
		r.drop(13)
		r.lays(0, row(0, tag))
	}
}

// A chain of two that fits into one bucket behind it, and one that just doesn't; likewise of three.
func TestDropOfChainsThatJustFit(t *testing.T) {
	r := made(t, 1, 1)
	r.full(0, 1, 15, these(2, 4, 6, 8, 10, 12, 14))
	r.drop(7)
	r.lays(0, row(0, 1, 3, 5, 7, 9, 11, 13))
	r.spare(1, ok)

	r = made(t, 1, 1)
	r.full(0, 1, 15, these(2, 4, 6, 8, 10, 12))
	r.drop(6)
	r.lays(1, row(2, 1, 3, 5, 7, 9, 11, 13), row(0, 14))
	r.spare(0, errFull)

	r = made(t, 1, 2)
	r.full(0, 1, 22, these(1, 8, 15, 16, 17, 18, 19))
	r.drop(7)
	r.lays(1, row(2, 2, 3, 4, 5, 6, 7, 9), row(0, 10, 11, 12, 13, 14, 20, 21))
	r.spare(2, ok)

	r = made(t, 1, 2)
	r.full(0, 1, 22, these(1, 8, 15, 16, 17, 18))
	r.drop(6)
	r.lays(2, row(2, 2, 3, 4, 5, 6, 7, 9), row(3, 10, 11, 12, 13, 14, 19, 20), row(0, 21))
	r.spare(0, errFull)

	r = made(t, 1, 2)
	r.full(0, 1, 22, these(1, 2, 3, 4, 5, 6, 7, 8, 9, 10, 11, 12, 13, 14))
	r.drop(14)
	r.lays(0, row(0, 15, 16, 17, 18, 19, 20, 21))
}

// What stands in a spare bucket that is in no chain goes, too, and isn't counted; the bucket isn't taken any more.
func TestDropOfSpareBucketsInNoChain(t *testing.T) {
	r := made(t, 1, 4)
	r.spare(1, ok)
	r.spare(2, ok)
	r.spare(3, ok)
	r.claim(8, number(1, 0), true, ok)
	r.claim(9, number(2, 0), true, ok)
	r.turn(9, fresh(2), 102, true, ok)
	r.claim(24, number(3, 0), true, ok)
	r.link(3, 1, true, ok)
	// One that nobody took.
	r.claim(32, number(4, 0), true, ok)
	r.put(number(5, 0), 105)
	r.put(number(6, 0), 0)
	r.drop(1)
	r.lays(0, row(0, 5))
	for s := range 4 {
		r.chain(1+s, 1+s)
		r.spare(1+s, ok)
	}
	// Such a one has links, while a chain has others.
	r.claim(8, number(9, 0), true, ok)
	r.link(1, 2, true, ok)
	r.link(0, 4, true, ok)
	r.full(0, 6, 14, none)
	r.drop(0)
	r.lays(1, row(2, 5, 6, 7, 8, 9, 10, 11), row(0, 12, 13))
}

// Spare buckets are numbered by chains, in whatever order they were taken and linked.
func TestDropOfLinksInAnotherOrder(t *testing.T) {
	r := made(t, 4, 6)
	for s := range 6 {
		r.spare(4+s, ok)
	}
	r.link(3, 4, true, ok)
	r.link(1, 9, true, ok)
	r.link(9, 6, true, ok)
	r.link(6, 8, true, ok)
	r.link(0, 7, true, ok)
	r.full(3, 1, 9, none)
	r.full(1, 11, 33, these(11, 12, 13, 14, 15, 16, 17))
	r.full(0, 41, 49, none)
	r.full(2, 51, 54, these(52))
	r.chain(1, 1, 9, 6, 8)
	r.drop(8)
	r.lays(4,
		row(5, 41, 42, 43, 44, 45, 46, 47),
		row(6, 18, 19, 20, 21, 22, 23, 24),
		row(0, 51, 53),
		row(8, 1, 2, 3, 4, 5, 6, 7),
		row(0, 48),
		row(7, 25, 26, 27, 28, 29, 30, 31),
		row(0, 32),
		row(0, 8))
	r.spare(8, ok)
	r.spare(9, ok)
	r.spare(0, errFull)
	r.drop(0)
	r.spare(8, ok)
	r.stands()
}

// Gaps that were left by claims of other slots than Look told are closed, too, also of buckets that have nothing.
func TestDropClosesGaps(t *testing.T) {
	r := made(t, 2, 3)
	for s := range 3 {
		r.spare(2+s, ok)
	}
	r.link(1, 4, true, ok)
	r.link(4, 2, true, ok)
	r.link(2, 3, true, ok)
	for _, slot := range []int{10, 14, 17, 18, 24, 28, 30, 5} {
		tag := uint64(slot)
		r.claim(slot, number(tag, 0), true, ok)
		r.turn(slot, fresh(tag), tag+100, true, ok)
	}
	r.chain(1, 1, 4, 2, 3)
	r.drop(0)
	r.lays(0, row(0, 5), row(0, 10, 14, 17, 18, 24, 28, 30))
}

// Of a chain of empty buckets with one entry at its end none remains.
func TestDropKeepsNoEmptyBucket(t *testing.T) {
	r := made(t, 1, 64)
	for s := range 64 {
		r.spare(1+s, ok)
		r.link(s, 1+s, true, ok)
	}
	r.claim(8*64+6, number(3, 0), true, ok)
	r.turn(8*64+6, fresh(3), 103, true, ok)
	r.drop(0)
	r.lays(0, row(0, 3))
	r.chain(0, 0)
}

// Twice: the second time nothing goes, and all stays.
func TestDropTwice(t *testing.T) {
	r := made(t, 2, 4)
	r.full(0, 1, 22, these(1, 2, 3, 9))
	r.full(1, 1, 16, these(15, 8))
	r.drop(6)
	was := r.x.Words()
	for range 2 {
		r.drop(0)
		if l := r.x.Words(); !slices.Equal(l, was) {
			t.Fatalf("Words are %x, not %x", l, was)
		}
	}
	r.stands()
	r.parted()
}

// The longest chain, each second one fresh; then each address stands where it stood.
func TestDropOfTheLongestChain(t *testing.T) {
	r := made(t, 1024, 64)
	even := func(tag uint64) bool { return tag%2 == 0 }
	r.full(1023, 0, 65*7, even)
	r.drop(228)
	r.words()
	r.parted()
	if l := r.x.Chain(1023); len(l) != 33 || l[1] != 1024 || l[32] != 1024+31 {
		t.Fatal(l)
	}
	r.spare(1024+32, ok)
	for tag := uint64(1); tag < 65*7; tag += 2 {
		if l := r.look(number(tag, 1023)); l.Kind != found || l.Word != points(tag, tag+100) {
			t.Fatal(tag, l)
		}
	}
}

// An index that is filled behind a Drop, and one that is dropped behind a Fill, is the same.
func TestDropAndFill(t *testing.T) {
	r := made(t, 2, 4)
	r.full(1, 1, 22, these(4, 5, 20))
	y := made(t, 2, 4)
	y.fill(r.x.Words(), ok)
	r.drop(3)
	y.drop(3)
	y.stands()
	z := made(t, 2, 4)
	z.fill(r.x.Words(), ok)
	z.stands()
	if !slices.Equal(y.x.Words(), z.x.Words()) {
		t.Fatal("they aren't the same")
	}
	z.spare(4, ok)
	z.counts(0, 0)
}
