package index_test

import (
	"slices"
	"sync"
	"testing"

	"haycroft/api"
	"haycroft/index"
)

// Rounds of many at once: each round is a new chance to meet between two steps of a call.
const (
	rounds  = 200
	workers = 8
)

// atOnce has many do the same, all of them let go together.
func atOnce(work func(who int)) {
	var ready, all sync.WaitGroup
	ready.Add(1)
	for who := range workers {
		all.Go(func() {
			ready.Wait()
			work(who)
		})
	}
	ready.Done()
	all.Wait()
}

// news is a new index that must be there.
func news(t *testing.T, n, spare int) *index.Index {
	t.Helper()
	x, e := index.New(n, spare)
	if e != ok {
		t.Fatal(n, spare, e)
	}
	return x
}

// tally is what one of many did.
type tally struct {
	won  int
	lost int
	e    api.Errno
	held int
}

// count notes what came of a try.
func (y *tally) count(won bool, e api.Errno) {
	switch {
	case e != ok:
		y.e = e
	case won:
		y.won++
	default:
		y.lost++
	}
}

// adds: all that many did.
func adds(l []tally) (won, lost int) {
	for _, y := range l {
		won += y.won
		lost += y.lost
	}
	return won, lost
}

// puts claims a slot for a number, as Look tells, and tells where it stands; false, if there is no room.
func (y *tally) puts(x *index.Index, h uint64) (int, bool) {
	for {
		l, e := x.Look(h)
		if e != ok {
			y.e = e
			return 0, false
		}
		switch l.Kind {
		case found:
			return l.Slot, true
		case free:
			y.count(x.Claim(l.Slot, h))
			continue
		}
		if y.held == 0 {
			if y.held, e = x.Spare(); e != ok {
				return 0, false
			}
		}
		won, e := x.Link(l.Bucket, y.held)
		y.count(won, e)
		if won {
			y.held = 0
		}
		if e != ok {
			return 0, false
		}
	}
}

// once: each tag of a bucket stands there once, and free slots stand behind all others.
func once(t *testing.T, x *index.Index, b int, want int) {
	t.Helper()
	seen := map[uint64]bool{}
	open := false
	for _, c := range x.Chain(b) {
		for k := range slots {
			w := x.Load(8*c + k)
			tag := w / addrs % tags
			if w != 0 && (open || seen[tag]) {
				t.Fatalf("bucket %d: slot %d of %d has %x, which stands there twice (%v), or behind a free slot (%v)", b, k, c, w, seen[tag], open)
			}
			if open = w == 0; !open {
				seen[tag] = true
			}
		}
	}
	if len(seen) != want {
		t.Fatalf("bucket %d has %d tags, not %d", b, len(seen), want)
	}
}

// Many put the same tags at once, each in an order of its own: each stands once, where all of them found it.
func TestManyClaimTheSame(t *testing.T) {
	const most = 30
	for round := range rounds {
		x := news(t, 2, 24)
		did := make([]tally, workers)
		at := make([][]int, workers)
		atOnce(func(who int) {
			at[who] = make([]int, 2*most)
			for i := range 2 * most {
				n := i
				if who%2 == 1 && round%2 == 1 {
					n = 2*most - 1 - i
				}
				at[who][n], _ = did[who].puts(x, number(uint64(n/2), n%2))
			}
		})
		for who := range did {
			if did[who].e != ok || !slices.Equal(at[who], at[0]) {
				t.Fatal(did[who], at[who], at[0])
			}
		}
		once(t, x, 0, most)
		once(t, x, 1, most)
		won, lost := adds(did)
		links := len(x.Chain(0)) + len(x.Chain(1)) - 2
		if won != 2*most+links {
			t.Fatalf("%d tries won: %d tags, %d links", won, 2*most, links)
		}
		if a, b := x.Counts(); a != won || b != lost {
			t.Fatal(a, b, won, lost)
		}
	}
}

// Many try one slot at once: one of them wins.
func TestManyClaimASlot(t *testing.T) {
	x := news(t, 1024, 0)
	for b := range 1024 {
		did := make([]tally, workers)
		atOnce(func(who int) { did[who].count(x.Claim(8*b, number(uint64(who), 0))) })
		won, lost := adds(did)
		if won != 1 || lost != workers-1 {
			t.Fatal(won, lost)
		}
		for who := range did {
			if (did[who].won == 1) != (x.Load(8*b) == fresh(uint64(who))) {
				t.Fatal(who, did[who], x.Load(8*b))
			}
		}
	}
	if a, b := x.Counts(); a != 1024 || b != 1024*(workers-1) {
		t.Fatal(a, b)
	}
}

// Many turn one entry at once, from what they saw: each address that won was turned from by the next one, and none is lost.
func TestManyTurnAnEntry(t *testing.T) {
	const each = 200
	x := news(t, 1, 0)
	x.Claim(0, number(3, 0))
	did := make([]tally, workers)
	from := make([][]uint64, workers)
	atOnce(func(who int) {
		for i := range uint64(each) {
			w := x.Load(0)
			won, e := x.Turn(0, w, uint64(who)*each+i+1)
			did[who].count(won, e)
			if won {
				from[who] = append(from[who], w)
			}
		}
	})
	var seen []uint64
	for _, l := range from {
		seen = append(seen, l...)
	}
	slices.Sort(seen)
	won, lost := adds(did)
	if len(slices.Compact(slices.Clone(seen))) != won || won+lost != workers*each || slices.Contains(seen, x.Load(0)) {
		t.Fatalf("%d won, %d lost, from %d words", won, lost, len(seen))
	}
	if a, b := x.Counts(); a != won+1 || b != lost {
		t.Fatal(a, b, won, lost)
	}
}

// Many take spare buckets at once: each is one's, and each one's are rising.
func TestManyTakeSpareBuckets(t *testing.T) {
	for range rounds {
		x := news(t, 4, 64)
		got := make([][]int, workers)
		atOnce(func(who int) {
			for n, e := x.Spare(); e == ok; n, e = x.Spare() {
				got[who] = append(got[who], n)
			}
		})
		var all []int
		for _, l := range got {
			if !slices.IsSorted(l) {
				t.Fatal(l)
			}
			all = append(all, l...)
		}
		slices.Sort(all)
		if len(all) != 64 || all[0] != 4 || all[63] != 67 || len(slices.Compact(all)) != 64 {
			t.Fatal(all)
		}
		if won, lost := x.Counts(); won != 0 || lost != 0 || x.Words()[0] != 64 {
			t.Fatal(won, lost, x.Words()[0])
		}
	}
}

// Many link at once: each its own spare bucket behind the same one.
func TestManyLinkBehindOne(t *testing.T) {
	for range 20 * rounds {
		x := news(t, 1, 64)
		for range 64 {
			x.Spare()
		}
		did := make([]tally, workers)
		atOnce(func(who int) { did[who].count(x.Link(0, 1+who)) })
		won, lost := adds(did)
		if l := x.Chain(0); won != 1 || lost != workers-1 || len(l) != 2 || did[l[1]-1].won != 1 {
			t.Fatal(won, lost, l)
		}
	}
}

// Many link one spare bucket at once, each behind another one: one of them wins, the others are told that it is linked.
func TestManyLinkOneSpareBucket(t *testing.T) {
	for range 20 * rounds {
		x := news(t, 512, 1)
		x.Spare()
		did := make([]tally, workers)
		atOnce(func(who int) { did[who].count(x.Link(who, 512)) })
		linked := 0
		for who := range did {
			if did[who].won == 1 {
				linked++
			} else if did[who].e != errArg {
				t.Fatal(did)
			}
			if len(x.Chain(who)) != 1+did[who].won {
				t.Fatal(x.Chain(who), did[who])
			}
		}
		if won, lost := x.Counts(); linked != 1 || won != 1 || lost != 0 {
			t.Fatal(linked, won, lost)
		}
	}
}

// Many link spare buckets in a ring at once: the last one is refused, so that no chain leads round.
func TestManyLinkRound(t *testing.T) {
	for range 20 * rounds {
		x := news(t, 1, workers)
		for range workers {
			x.Spare()
		}
		did := make([]tally, workers)
		atOnce(func(who int) { did[who].count(x.Link(1+who, 1+(who+1)%workers)) })
		won, lost := adds(did)
		longest := 0
		for s := range workers {
			longest = max(longest, len(x.Chain(1+s)))
		}
		if won != workers-1 || lost != 0 || longest != workers {
			t.Fatal(won, lost, longest)
		}
	}
}

// Many look while others put: who found a tag once finds it in the same slot for ever.
func TestManyLookWhileOthersPut(t *testing.T) {
	for range rounds {
		x := news(t, 1, 16)
		did := make([]tally, workers)
		wrong := make([]int, workers)
		atOnce(func(who int) {
			if who%2 == 0 {
				for n := range 40 {
					slot, there := did[who].puts(x, number(uint64(n), 0))
					x.Turn(slot, fresh(uint64(n)), uint64(n+1))
					if !there {
						wrong[who]++
					}
				}
				return
			}
			at := map[uint64]int{}
			for n := uint64(0); n < 400; n++ {
				l, _ := x.Look(number(n%40, 0))
				slot, was := at[n%40]
				if was && (l.Kind != found || l.Slot != slot || l.Word/addrs%tags != n%40) {
					wrong[who]++
				}
				if l.Kind == found {
					at[n%40] = l.Slot
				}
			}
		})
		once(t, x, 0, 40)
		if slices.Max(wrong) > 0 {
			t.Fatal(wrong)
		}
	}
}
