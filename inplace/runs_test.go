package inplace_test

import (
	"math/rand"
	"strings"
	"testing"
)

// place is a record of a page of the runs by lot.
type place struct {
	a     uint64
	key   int
	value int
}

// lots is a run whose steps are drawn by lot.
type lots struct {
	*run
	draw    *rand.Rand
	records []place
}

// text is one of so many bytes, drawn by lot.
func (y *lots) text(n int) string {
	s := make([]byte, n)
	y.draw.Read(s)
	return string(s)
}

// newLots: a page full of records, the last one of which ends with its last word.
func newLots(t *testing.T, seed int64) *lots {
	t.Helper()
	draw := rand.New(rand.NewSource(seed))
	bits := leastBits + draw.Intn(mostBits-leastBits+1)
	page := []int{0, 1, 2, 1000, 1<<(48-bits) - 1}[draw.Intn(5)]
	y := &lots{run: newRun(t, bits, page), draw: draw}
	for at := draw.Intn(2); at < len(y.m.words); {
		p := place{y.m.first + uint64(at), 1 + draw.Intn(mostKey), draw.Intn(4) * draw.Intn(10)}
		if draw.Intn(2) == 0 {
			p.value = 8
		}
		size := int(valueAt(p.key)) + (p.value+7)/8
		if at+size > len(y.m.words) {
			break
		}
		y.lay(p.a, p.key, y.text(p.value))
		y.records = append(y.records, p)
		at += size
	}
	return y
}

// comes: one more who moves, at a record that is drawn.
func (y *lots) comes() {
	y.t.Helper()
	if len(y.records) == 0 {
		return
	}
	p := y.records[y.draw.Intn(len(y.records))]
	switch kind := y.draw.Intn(3); {
	case kind == adder && p.value == 8:
		y.joins(adder, p.a, p.key, "", y.draw.Uint64())
	case kind == reader:
		y.joins(reader, p.a, p.key, strings.Repeat(" ", p.value), 0)
	default:
		y.joins(writer, p.a, p.key, y.text(p.value), 0)
	}
}

// meddles: a word of a record's value is turned by somebody else, or his writing is counted, where nobody writes.
func (y *lots) meddles() {
	y.t.Helper()
	if len(y.records) == 0 || !y.m.in {
		return
	}
	p := y.records[y.draw.Intn(len(y.records))]
	lock := *y.m.at(p.a + 1)
	if lock < lockBit && y.draw.Intn(2) == 0 {
		y.fill(p.a+1, []uint64{(lock + 1 + uint64(y.draw.Intn(3))) % counts})
	} else if p.value >= 8 {
		y.fill(p.a+valueAt(p.key)+uint64(y.draw.Intn(p.value/8)), []uint64{y.draw.Uint64()})
	}
}

// step: one thing, drawn by lot.
func (y *lots) step() {
	y.t.Helper()
	switch n := y.draw.Intn(40); {
	case n < 4:
		y.comes()
	case n == 4:
		y.meddles()
	case n == 5 && y.m.in:
		y.close()
	case n == 6 && !y.m.in:
		y.open()
	case n < 10 && !y.m.in:
		y.again()
	case len(y.all) > 0:
		y.move(y.draw.Intn(len(y.all)))
	}
}

// Runs by lot, of many at the records of a page, which goes and comes.
func TestRunsByLot(t *testing.T) {
	for seed := range int64(1500) {
		y := newLots(t, seed)
		for range 150 {
			y.step()
		}
		y.same()
	}
}

// Many at one record, whose page stays: what each one reads was there, and all that was written is there.
func TestCrowdsByLot(t *testing.T) {
	for seed := range int64(3000) {
		draw := rand.New(rand.NewSource(seed))
		y := lots{draw: draw}
		size := 8
		if draw.Intn(2) == 0 {
			size = draw.Intn(40)
		}
		var l []someone
		for range 2 + draw.Intn(7) {
			o := someone{kind: draw.Intn(3), value: y.text(size), n: draw.Uint64()}
			if o.kind == adder && size != 8 {
				o.kind = reader
			}
			l = append(l, o)
		}
		c := newCrowd(t, y.text(size), l)
		for range 60 {
			c.step(draw.Intn(len(l)))
		}
		c.finish()
	}
}
