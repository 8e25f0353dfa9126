package inplace_test

import (
	"slices"
	"testing"
)

// P18.3

// someone is one of those who move at one record: a writer of a value, an adder of a number, or a reader.
type someone struct {
	kind  int
	value string
	n     uint64
}

// The record of the orders: at the address 3, with a key of one byte.
const (
	spotAt  = 3
	spotKey = 1
)

// crowd is some who move at one record, and what may be told of all of them, without the model.
type crowd struct {
	*run
	now    string   // the value, as those who ended leave it
	l      []string // the values that were there as a whole
	from   []int    // of each one: how many of l there were when it began
	ended  []bool
	others []someone
}

// newCrowd: they stand ahead of their first moves.
func newCrowd(t *testing.T, was string, l []someone) *crowd {
	t.Helper()
	c := &crowd{run: newRun(t, leastBits, 0), now: was, l: []string{was}, others: l}
	c.lay(spotAt, spotKey, was)
	for _, o := range l {
		value := o.value
		if o.kind == reader {
			value = was
		}
		c.joins(o.kind, spotAt, spotKey, value, o.n)
	}
	c.from = make([]int, len(l))
	c.ended = make([]bool, len(l))
	return c
}

// value is what stands there.
func (c *crowd) value() string {
	c.t.Helper()
	l, e := c.b.Words(spotAt+valueAt(spotKey), max(1, (len(c.now)+7)/8))
	if e != ok {
		c.t.Fatal(e)
	}
	return textOf(l, len(c.now))
}

// leaves: what one who wrote makes of the value that was there.
func (o someone) leaves(was string) string {
	if o.kind == adder {
		return textOf([]uint64{wordsOf(was)[0] + o.n}, 8)
	}
	return o.value
}

// step: one of them moves once.
func (c *crowd) step(who int) {
	c.t.Helper()
	if c.all[who].m.did == 0 {
		c.from[who] = len(c.l) - 1
	}
	got := c.move(who)
	held := 0
	for _, p := range c.all {
		if p.w.Holds() {
			held++
		}
	}
	lock, _ := c.b.Load(spotAt + 1)
	if held > 1 || (held == 1) != (lock >= lockBit) {
		c.t.Fatalf("moves %v: %d hold, the lock is %x", c.did, held, lock)
	}
	if got != done || c.ended[who] {
		return
	}
	c.ended[who] = true
	if c.others[who].kind == reader {
		if s := c.all[who].r.Value(); !slices.Contains(c.l[c.from[who]:], s) {
			c.t.Fatalf("moves %v: %q was read, of %q", c.did, s, c.l[c.from[who]:])
		}
		return
	}
	c.now = c.others[who].leaves(c.now)
	c.l = append(c.l, c.now)
	if s := c.value(); s != c.now {
		c.t.Fatalf("moves %v: %q is there, not %q", c.did, s, c.now)
	}
}

// finish: all move in turn, till all are done.
func (c *crowd) finish() {
	c.t.Helper()
	for range 200 {
		if !slices.Contains(c.ended, false) {
			return
		}
		for who, e := range c.ended {
			if !e {
				c.step(who)
			}
		}
	}
	c.t.Fatalf("moves %v: not done", c.did)
}

// orders tells all orders of so many moves of each.
func orders(left []int, did []int, do func([]int)) {
	open := false
	for who := range left {
		if left[who] == 0 {
			continue
		}
		open = true
		left[who]--
		orders(left, append(did, who), do)
		left[who]++
	}
	if !open {
		do(did)
	}
}

// inAllOrders: some move in all orders of so many moves each, and then in turn till all are done.
func inAllOrders(t *testing.T, was string, each int, l ...someone) {
	t.Helper()
	orders(slices.Repeat([]int{each}, len(l)), nil, func(did []int) {
		c := newCrowd(t, was, l)
		for _, who := range did {
			c.step(who)
		}
		c.finish()
		added, all := uint64(0), true
		for _, o := range l {
			if o.kind == adder {
				added += o.n
			}
			all = all && o.kind != writer
		}
		if all && added > 0 && wordsOf(c.value())[0] != wordsOf(was)[0]+added {
			t.Fatalf("moves %v: %x is the sum", c.did, wordsOf(c.value()))
		}
	})
}

// Values of two words, one and none, no byte of which is another one's.
var (
	long  = []string{"0123456789", "abcdefghij", "ABCDEFGHIJ"}
	short = []string{"01234567", "abcdefgh", "ABCDEFGH"}
	empty = []string{"", "", ""}
)

// In all orders of more moves of each of two than they need where nobody is in their way.
func TestAllOrdersOfTwo(t *testing.T) {
	r := someone{kind: reader}
	for _, v := range [][]string{long, short, empty} {
		w, u := someone{writer, v[1], 0}, someone{writer, v[2], 0}
		inAllOrders(t, v[0], 7, w, u)
		inAllOrders(t, v[0], 7, w, r)
		inAllOrders(t, v[0], 5, r, r)
	}
	a, b, w := someone{adder, "", 3}, someone{adder, "", allOnes - 6}, someone{writer, short[1], 0}
	inAllOrders(t, short[0], 8, a, b)
	inAllOrders(t, short[0], 8, a, w)
	inAllOrders(t, short[0], 8, a, r)
}

// In all orders of some moves of each of three.
func TestAllOrdersOfThree(t *testing.T) {
	r := someone{kind: reader}
	w, u := someone{writer, long[1], 0}, someone{writer, long[2], 0}
	inAllOrders(t, long[0], 4, w, u, r)
	inAllOrders(t, long[0], 3, w, r, r)
	inAllOrders(t, long[0], 3, w, u, someone{writer, long[0], 0})
	a, b, c := someone{adder, "", 3}, someone{adder, "", allOnes - 6}, someone{adder, "", 1 << 40}
	inAllOrders(t, short[0], 4, a, b, c)
	inAllOrders(t, short[0], 4, a, b, r)
	inAllOrders(t, short[0], 3, a, someone{writer, short[1], 0}, r)
	inAllOrders(t, short[0], 3, a, someone{writer, short[1], 0}, b)
	inAllOrders(t, short[0], 3, a, r, r)
}
