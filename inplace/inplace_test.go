package inplace_test

import (
	"slices"
	"strings"
	"testing"

	"haycroft/api"
	"haycroft/inplace"
	"haycroft/pages"
)

// P18.1

// news: a buffer of a page size, in which no page is.
func news(t *testing.T, bits int) *pages.Buffer {
	t.Helper()
	b, e := pages.New(bits, 2)
	if e != ok {
		t.Fatal(e)
	}
	return b
}

// made: what NewWriter and NewReader, and of 8 bytes NewAdder, tell of a record.
func made(t *testing.T, b *pages.Buffer, a uint64, key, value int, want api.Errno) {
	t.Helper()
	w, e := inplace.NewWriter(b, a, key, strings.Repeat("v", max(value, 0)))
	if value >= 0 && (e != want || (w != nil) != (e == ok)) {
		t.Fatalf("NewWriter(%d, %d, %d): %v %d, not %d", a, key, value, w, e, want)
	}
	r, e := inplace.NewReader(b, a, key, value)
	if e != want || (r != nil) != (e == ok) {
		t.Fatalf("NewReader(%d, %d, %d): %v %d, not %d", a, key, value, r, e, want)
	}
	if value != 8 {
		return
	}
	w, e = inplace.NewAdder(b, a, key, 7)
	if e != want || (w != nil) != (e == ok) {
		t.Fatalf("NewAdder(%d, %d): %v %d, not %d", a, key, w, e, want)
	}
}

func TestNewOfNoBuffer(t *testing.T) {
	made(t, nil, 1, 1, 8, errNil)
	// It is told ahead of what else is wrong.
	for _, key := range []int{-1, 0, 1, 65} {
		for _, value := range []int{-1, 0, 8, 129} {
			for _, a := range []uint64{0, 1, 31, lastAddr, lastAddr + 1, allOnes} {
				made(t, nil, a, key, value, errNil)
			}
		}
	}
}

// All lengths, from below 0 to beyond what may be, at all places of a page.
func TestNewOfAllLengths(t *testing.T) {
	for bits := leastBits; bits <= mostBits; bits++ {
		b := news(t, bits)
		size := 1 << bits
		for key := -2; key <= mostKey+2; key++ {
			for value := -2; value <= mostValue+2; value += 1 + bits%leastBits {
				may := key >= 1 && key <= mostKey && value >= 0 && value <= mostValue
				words := int(valueAt(key)) + (value+7)/8
				for at := max(0, size-32); at < size; at++ {
					want := ok
					if !may || at+words > size {
						want = errArg
					}
					made(t, b, uint64(5*size+at), key, value, want)
				}
			}
		}
	}
}

func TestNewOfLengthsThatMayNotBe(t *testing.T) {
	b := news(t, mostBits)
	const least, most = -1 << 63, 1<<63 - 1
	for _, n := range []int{least, least + 1, -65536, -8, -1, mostKey + 1, 65, 72, 65536, 1 << 32, most - 1, most} {
		made(t, b, 1, n, 8, errArg)
		made(t, b, 1, n, 0, errArg)
	}
	made(t, b, 1, 0, 8, errArg)
	made(t, b, 1, 0, 0, errArg)
	for _, n := range []int{least, least + 1, -65536, -8, -1, mostValue + 1, 136, 65536, 1 << 20} {
		made(t, b, 1, 1, n, errArg)
		made(t, b, 1, mostKey, n, errArg)
	}
	for _, n := range []int{1 << 32, most - 7, most} {
		if r, e := inplace.NewReader(b, 1, 1, n); r != nil || e != errArg {
			t.Error(n, r, e)
		}
	}
	for _, key := range []int{1, 7, 8, 9, mostKey} {
		for _, value := range []int{0, 1, 7, 8, 9, mostValue} {
			made(t, b, 1, key, value, ok)
		}
	}
}

func TestNewOfAddresses(t *testing.T) {
	for bits := leastBits; bits <= mostBits; bits++ {
		b := news(t, bits)
		size := uint64(1) << bits
		// Of a key of one byte and a value of 8: 5 words.
		for _, a := range []uint64{0, 1, 2, size - 6, size - 5, size, 2*size - 5, 1 << 32, lastAddr - 5, lastAddr - 4} {
			made(t, b, a, 1, 8, ok)
		}
		for _, a := range []uint64{size - 4, size - 1, 2*size - 4, 2*size - 1, lastAddr - 3, lastAddr - 1, lastAddr} {
			made(t, b, a, 1, 8, errArg)
		}
		for _, a := range []uint64{lastAddr + 1, lastAddr + 2, lastAddr + 1 + size, 1 << 63, allOnes - 4, allOnes} {
			made(t, b, a, 1, 8, errArg)
			made(t, b, a, 1, 0, errArg)
		}
	}
}

// The page needn't be in when somebody begins, and neither it nor a record that stands there plays a part.
func TestNewLooksAtNothing(t *testing.T) {
	b := news(t, leastBits)
	made(t, b, 1, 1, 8, ok)
	if l := b.In(); len(l) != 0 {
		t.Error(l)
	}
	x := newRun(t, leastBits, 0)
	x.fill(0, slices.Repeat([]uint64{allOnes}, 32))
	for value := range mostValue {
		made(t, x.b, 1, 1, value, ok)
	}
	x.same()
}

// The example of the chapter: an adder is done with its fourth move.
func TestExample(t *testing.T) {
	x := newRun(t, leastBits, 0)
	x.lay(1, 1, textOf([]uint64{5}, 8))
	p := x.joins(adder, 1, 1, "", 7)
	for i, want := range []int{more, more, more, done} {
		if v, e := p.w.Move(); v != want || e != ok {
			t.Error(i, v, e)
		}
	}
	if l, e := x.b.Words(1, 5); e != ok || !slices.Equal(l, []uint64{0, 1, 189850439909377, 'a', 12}) {
		t.Error(l, e)
	}
}

// A writer by hand: each move turns one word, and no other one.
func TestWriterByHand(t *testing.T) {
	x := newRun(t, leastBits, 2)
	x.lay(70, 9, "0123456789abcdef+")
	p := x.joins(writer, 70, 9, "ABCDEFGHIJKLMNOPQ", 0)
	want := x.m.words
	for i, y := range []struct {
		at  int
		w   uint64
		got int
	}{
		{7, lockBit, more},
		{11, 0x4847464544434241, more},
		{12, 0x504f4e4d4c4b4a49, more},
		{13, 'Q', more},
		{7, 1, done},
	} {
		want[y.at] = y.w
		if v, e := p.w.Move(); v != y.got || e != ok {
			t.Error(i, v, e)
		}
		if l, e := x.b.Page(2); e != ok || !slices.Equal(l, want) {
			t.Errorf("%d: %x %d", i, l, e)
		}
		if p.w.Holds() != (i < 4) {
			t.Error(i, p.w.Holds())
		}
	}
	for range 3 {
		if v, e := p.w.Move(); v != done || e != ok || p.w.Holds() {
			t.Error(v, e)
		}
	}
	if l, e := x.b.Page(2); e != ok || !slices.Equal(l, want) {
		t.Errorf("%x %d", l, e)
	}
}

// A reader by hand: it turns no word, and takes each one when its move comes.
func TestReaderByHand(t *testing.T) {
	x := newRun(t, leastBits, 2)
	x.lay(70, 9, "0123456789abcdef+")
	p := x.joins(reader, 70, 9, strings.Repeat(" ", 17), 0)
	want := slices.Clone(x.m.words)
	for i, got := range []int{more, more, more, more, done, done, done} {
		if v := p.r.Value(); v != "" && i < 5 {
			t.Error(i, v)
		}
		if v, e := p.r.Move(); v != got || e != ok {
			t.Error(i, v, e)
		}
	}
	if v := p.r.Value(); v != "0123456789abcdef+" {
		t.Error(v)
	}
	if l, e := x.b.Page(2); e != ok || !slices.Equal(l, want) {
		t.Errorf("%x %d", l, e)
	}
}

// moveCount: how many moves one has.
func moveCount(kind, value int) int {
	n := 2 + (value+7)/8
	if kind == adder {
		n++
	}
	return n
}

// goes: one alone goes through all its moves, and on.
func goes(t *testing.T, x *run, p *pair, n int) {
	t.Helper()
	for range n - 1 {
		x.moves(p, more)
	}
	x.moves(p, done, done, done, done)
}

// All lengths of keys and values, of writers and readers alone at a record.
func TestAloneOfAllLengths(t *testing.T) {
	for _, bits := range []int{leastBits, mostBits} {
		for key := 1; key <= mostKey; key += 1 + bits/mostBits*6 {
			for value := 0; value <= mostValue; value++ {
				x := newRun(t, bits, 3)
				a := x.m.first + uint64(len(x.m.words)) - valueAt(key) - uint64((value+7)/8)
				x.lay(a, key, strings.Repeat("o", value))
				was := strings.Repeat("abcdefghijk", 12)[:value]
				p := x.joins(writer, a, key, was, 0)
				goes(t, x, p, moveCount(writer, value))
				q := x.joins(reader, a, key, was, 0)
				goes(t, x, q, moveCount(reader, value))
				if q.r.Value() != was {
					t.Fatal(key, value, q.r.Value())
				}
			}
		}
	}
}

// A record that ends with its page's last word: that is written, and the next page isn't, be it in or not.
func TestLastWordOfAPage(t *testing.T) {
	for _, page := range []int{0, 1, 7, 1<<43 - 1} {
		x := newRun(t, leastBits, page)
		a := x.m.first + 27
		x.lay(a, 1, "12345678")
		next := page + 1
		if e := x.b.Open(next); e != ok {
			t.Fatal(e)
		}
		goes(t, x, x.joins(writer, a, 1, "87654321", 0), 3)
		goes(t, x, x.joins(adder, a, 1, "", 1<<56), 4)
		r := x.joins(reader, a, 1, "        ", 0)
		goes(t, x, r, 3)
		if r.r.Value() != "87654322" {
			t.Error(r.r.Value())
		}
		if l, e := x.b.Page(next); e != ok || !slices.Equal(l, make([]uint64, 32)) {
			t.Error(l, e)
		}
	}
}

// At the address 0 too: it is none, but its page has words.
func TestAddressNought(t *testing.T) {
	x := newRun(t, leastBits, 0)
	x.lay(0, 1, "12345678")
	goes(t, x, x.joins(adder, 0, 1, "", 1), 4)
	goes(t, x, x.joins(writer, 0, 1, "a", 0), 3)
	goes(t, x, x.joins(reader, 0, 1, "a", 0), 3)
	if w := x.m.words[1]; w != 2 {
		t.Error(w)
	}
}

// A writer's first move, where nobody writes, whatever the count; the last one makes it one more, and it goes round.
func TestCountOfWritings(t *testing.T) {
	for _, n := range []uint64{0, 1, 2, 65535, 65536, 1 << 31, counts - 2, counts - 1} {
		x := newRun(t, leastBits, 0)
		x.lay(1, 1, "1")
		x.fill(2, []uint64{n})
		p := x.joins(writer, 1, 1, "2", 0)
		x.moves(p, more)
		if w, _ := x.b.Load(2); w != n+lockBit {
			t.Errorf("%x", w)
		}
		x.moves(p, more, done)
		if w, _ := x.b.Load(2); w != (n+1)%counts {
			t.Errorf("%x", w)
		}
	}
}

// A writer's first move, where somebody writes: it is busy, as often as it tries, till that one is done.
func TestWriterWhereSomebodyWrites(t *testing.T) {
	for _, kind := range []int{writer, adder} {
		x := newRun(t, leastBits, 0)
		x.lay(1, 1, "12345678")
		p := x.joins(writer, 1, 1, "abcdefgh", 0)
		q := x.joins(kind, 1, 1, "ABCDEFGH", 9)
		x.moves(p, more)
		x.moves(q, busy, busy)
		x.moves(p, more)
		x.moves(q, busy)
		x.moves(p, done)
		x.moves(q, more)
		x.moves(p, done)
		for range moveCount(kind, 8) - 2 {
			x.moves(q, more)
		}
		x.moves(q, done, done)
	}
}

// A writer of no word, of one, of many.
func TestWriterOfWords(t *testing.T) {
	for _, value := range []string{"", "a", "abcdefgh", "abcdefghi", strings.Repeat("x", mostValue)} {
		x := newRun(t, leastBits, 0)
		x.lay(1, 1, value)
		goes(t, x, x.joins(writer, 1, 1, value, 0), 2+(len(value)+7)/8)
	}
	// Bytes behind the last one are noughts, whatever stood there.
	x := newRun(t, leastBits, 0)
	x.lay(1, 1, "12345678")
	goes(t, x, x.joins(writer, 1, 1, "a", 0), 3)
	if w, _ := x.b.Load(5); w != 'a' {
		t.Errorf("%x", w)
	}
}

// An adder to values of all sorts: the sum is reckoned modulo 2^64.
func TestAdderTo(t *testing.T) {
	for _, y := range []struct{ was, n, want uint64 }{
		{0, 0, 0},
		{0, 1, 1},
		{5, 7, 12},
		{0, allOnes, allOnes},
		{allOnes, 0, allOnes},
		{allOnes, 1, 0},
		{allOnes, allOnes, allOnes - 1},
		{1, allOnes, 0},
		{5, allOnes, 4},
		{1 << 63, 1 << 63, 0},
		{1<<63 + 3, 1<<63 + 4, 7},
		{255, 1, 256},
	} {
		x := newRun(t, leastBits, 1)
		x.lay(40, 3, textOf([]uint64{y.was}, 8))
		p := x.joins(adder, 40, 3, "", y.n)
		goes(t, x, p, 4)
		if w, _ := x.b.Load(44); w != y.want {
			t.Errorf("%v: %d", y, w)
		}
	}
}

// An adder adds to what is there at its second move: what was there ahead of that, or comes behind it, plays no part.
func TestAdderReadsAtItsSecondMove(t *testing.T) {
	x := newRun(t, leastBits, 0)
	x.lay(1, 1, "........")
	p := x.joins(adder, 1, 1, "", 7)
	x.fill(5, []uint64{100})
	x.moves(p, more)
	x.fill(5, []uint64{200})
	x.moves(p, more)
	x.fill(5, []uint64{300})
	x.moves(p, more)
	if w, _ := x.b.Load(5); w != 207 {
		t.Error(w)
	}
	x.fill(5, []uint64{400})
	x.moves(p, done, done)
	if w, _ := x.b.Load(5); w != 400 {
		t.Error(w)
	}
}

// A reader of no word, of one, of many.
func TestReaderOfWords(t *testing.T) {
	for _, value := range []string{"", "a", "abcdefgh", "abcdefghi", strings.Repeat("x", mostValue)} {
		x := newRun(t, leastBits, 0)
		x.lay(1, 1, value)
		p := x.joins(reader, 1, 1, value, 0)
		goes(t, x, p, 2+(len(value)+7)/8)
		if p.r.Value() != value {
			t.Error(p.r.Value())
		}
	}
	x := newRun(t, leastBits, 0)
	p := x.joins(reader, 1, 1, "", 0)
	x.fill(2, []uint64{lockBit})
	x.moves(p, busy)
	x.fill(2, []uint64{7})
	x.moves(p, more)
	x.fill(2, []uint64{8})
	x.moves(p, busy, more, done)
}

// A reader, where somebody writes ahead of it.
func TestReaderWhereSomebodyWrites(t *testing.T) {
	x := newRun(t, leastBits, 0)
	x.lay(1, 1, "0123456789")
	w := x.joins(writer, 1, 1, "abcdefghij", 0)
	r := x.joins(reader, 1, 1, "          ", 0)
	x.moves(w, more)
	x.moves(r, busy, busy)
	x.moves(w, more, more)
	x.moves(r, busy)
	x.moves(w, done)
	x.moves(r, more, more, more, done)
	if r.r.Value() != "abcdefghij" {
		t.Error(r.r.Value())
	}
}

// A reader, where somebody wrote and ended between its first move and its last one: at each of the places between.
func TestReaderWhereSomebodyWrote(t *testing.T) {
	for at := 1; at <= 3; at++ {
		x := newRun(t, leastBits, 0)
		x.lay(1, 1, "0123456789")
		w := x.joins(writer, 1, 1, "abcdefghij", 0)
		r := x.joins(reader, 1, 1, "          ", 0)
		for range at {
			x.moves(r, more)
		}
		x.moves(w, more, more, more, done)
		for range 3 - at {
			x.moves(r, more)
		}
		x.moves(r, busy)
		if r.r.Value() != "" {
			t.Error(r.r.Value())
		}
		x.moves(r, more, more, more, done)
		if r.r.Value() != "abcdefghij" {
			t.Error(r.r.Value())
		}
	}
	// The same value written again is a writing too, and one of no word is one.
	for _, value := range []string{"0123456789", ""} {
		x := newRun(t, leastBits, 0)
		x.lay(1, 1, "0123456789")
		w := x.joins(writer, 1, 1, value, 0)
		r := x.joins(reader, 1, 1, "          ", 0)
		x.moves(r, more, more)
		goes(t, x, w, moveCount(writer, len(value)))
		x.moves(r, more, busy, more, more, more, done)
	}
}

// A reader whose last move comes while somebody writes: busy, though no word was turned yet.
func TestReaderEndsWhereSomebodyWrites(t *testing.T) {
	x := newRun(t, leastBits, 0)
	x.lay(1, 1, "0123456789")
	w := x.joins(writer, 1, 1, "abcdefghij", 0)
	r := x.joins(reader, 1, 1, "          ", 0)
	x.moves(r, more, more, more)
	x.moves(w, more)
	x.moves(r, busy, busy)
	x.moves(w, more, more, done)
	x.moves(r, more, more, more, done)
}

// A reader that begins anew, twice: nothing is left of what it read.
func TestReaderBeginsAnewTwice(t *testing.T) {
	x := newRun(t, leastBits, 0)
	x.lay(1, 1, "0123456789")
	r := x.joins(reader, 1, 1, "          ", 0)
	for _, value := range []string{"abcdefghij", "ABCDEFGHIJ"} {
		x.moves(r, more, more)
		goes(t, x, x.joins(writer, 1, 1, value, 0), 4)
		x.moves(r, more, busy)
	}
	x.moves(r, more, more, more, done, done)
	if r.r.Value() != "ABCDEFGHIJ" {
		t.Error(r.r.Value())
	}
	// What comes behind its end plays no part.
	goes(t, x, x.joins(writer, 1, 1, "..........", 0), 4)
	x.moves(r, done)
	if r.r.Value() != "ABCDEFGHIJ" {
		t.Error(r.r.Value())
	}
}

// A reader of fewer bytes than stand there tells these alone.
func TestReaderOfFewerBytes(t *testing.T) {
	x := newRun(t, leastBits, 0)
	x.fill(1, laid(1, "0123456789abcdef"))
	for n := range 17 {
		r := x.joins(reader, 1, 1, strings.Repeat(" ", n), 0)
		goes(t, x, r, moveCount(reader, n))
		if r.r.Value() != "0123456789abcdef"[:n] {
			t.Error(n, r.r.Value())
		}
	}
}

// away: ahead of one move of one that is alone, the page goes, for some moves; and behind it is in again.
func away(t *testing.T, kind, at, tries int, other bool) {
	t.Helper()
	x := newRun(t, leastBits, 2)
	x.lay(70, 1, "12345678")
	p := x.joins(kind, 70, 1, "abcdefgh", 9)
	n := moveCount(kind, 8)
	for i := range n {
		if i == at {
			x.close()
			if other && x.b.Open(4) != ok {
				t.Fatal("page 4")
			}
			for range tries {
				x.moves(p, none)
			}
			if other && x.b.Close(4) != ok {
				t.Fatal("page 4")
			}
			x.again()
		}
		want := more
		if i == n-1 {
			want = done
		}
		x.moves(p, want)
	}
	x.moves(p, done)
	want := []string{"abcdefgh", ":2345678"}[min(kind, 1)]
	if kind == reader {
		want = "12345678"
		if p.r.Value() != want {
			t.Error(p.r.Value())
		}
	}
	if l, _ := x.b.Words(74, 1); textOf(l, 8) != want {
		t.Errorf("%d %d: %q", kind, at, textOf(l, 8))
	}
}

// Where the page isn't in, ahead of each of the moves, each one stays where it is.
func TestMoveWhereThePageIsNotIn(t *testing.T) {
	for _, kind := range []int{writer, adder, reader} {
		for at := range moveCount(kind, 8) {
			for tries := range 4 {
				away(t, kind, at, tries, tries%2 == 1)
			}
		}
	}
}

// One that is done asks for no page.
func TestDoneWhereThePageIsNotIn(t *testing.T) {
	for _, kind := range []int{writer, adder, reader} {
		x := newRun(t, leastBits, 0)
		x.lay(1, 1, "12345678")
		p := x.joins(kind, 1, 1, "abcdefgh", 9)
		goes(t, x, p, moveCount(kind, 8))
		x.close()
		x.moves(p, done, done)
		if kind == reader && p.r.Value() != "12345678" {
			t.Error(p.r.Value())
		}
		x.again()
		x.moves(p, done)
	}
}

// Behind a page that came anew, of noughts, all go on with what they are at.
func TestMoveWhereThePageIsAnew(t *testing.T) {
	x := newRun(t, leastBits, 0)
	x.lay(1, 1, "12345678")
	x.fill(2, []uint64{41})
	w := x.joins(writer, 1, 1, "abcdefgh", 0)
	r := x.joins(reader, 1, 1, "        ", 0)
	x.moves(r, more, more)
	x.moves(w, more)
	x.close()
	x.moves(w, none)
	x.moves(r, none)
	x.open()
	x.moves(r, busy)
	x.moves(w, more, done)
	if n, _ := x.b.Load(2); n != 42 {
		t.Error(n)
	}
	x.moves(r, more, more, done)
	if r.r.Value() != "abcdefgh" {
		t.Error(r.r.Value())
	}
}

// A word that no lock has: nobody may write there, and it is left as it is; where its highest bit is one somebody does.
func TestNoLocksWord(t *testing.T) {
	for _, w := range []uint64{counts, counts + 1, 1 << 62, lockBit - 1} {
		x := newRun(t, leastBits, 0)
		x.lay(1, 1, "12345678")
		x.fill(2, []uint64{w})
		for _, kind := range []int{writer, adder} {
			p := x.joins(kind, 1, 1, "abcdefgh", 9)
			for range 2 {
				if v, e := p.w.Move(); v != none || e != errForm {
					t.Errorf("%x: %d %d", w, v, e)
				}
				x.same()
			}
		}
		x.moves(x.joins(reader, 1, 1, "        ", 0), more, more, done)
	}
	for _, w := range []uint64{lockBit, lockBit + 1, lockBit + counts, allOnes} {
		x := newRun(t, leastBits, 0)
		x.lay(1, 1, "12345678")
		x.fill(2, []uint64{w})
		for _, kind := range []int{writer, adder, reader} {
			x.moves(x.joins(kind, 1, 1, "abcdefgh", 9), busy, busy)
		}
	}
}

// P18.1 and P18.2: of nobody.

func TestNobody(t *testing.T) {
	var w *inplace.Writer
	var r *inplace.Reader
	for range 3 {
		if v, e := w.Move(); v != none || e != errNil {
			t.Error(v, e)
		}
		if v, e := r.Move(); v != none || e != errNil {
			t.Error(v, e)
		}
		if w.Holds() || r.Value() != "" {
			t.Error(w.Holds(), r.Value())
		}
	}
}

// Of those that no call made nothing is promised but that each call ends.
func TestMadeByNobody(t *testing.T) {
	w, r := new(inplace.Writer), new(inplace.Reader)
	for range 5 {
		w.Move()
		w.Holds()
		r.Move()
		r.Value()
	}
	// Neither of a buffer that no call made.
	v, _ := inplace.NewWriter(new(pages.Buffer), 1, 1, "")
	v.Move()
	u, _ := inplace.NewReader(new(pages.Buffer), 1, 1, 8)
	u.Move()
	u.Value()
}

// P18.2

// Holds ahead of each move and behind each, Value likewise, is held against the model in each run; here by hand.
func TestHoldsByHand(t *testing.T) {
	for _, kind := range []int{writer, adder} {
		for _, value := range []string{"", "12345678"} {
			if kind == adder && value == "" {
				continue
			}
			x := newRun(t, leastBits, 0)
			x.lay(1, 1, "12345678")
			p := x.joins(kind, 1, 1, value, 3)
			x.fill(2, []uint64{lockBit})
			for _, held := range []uint64{lockBit, lockBit, 0} {
				x.fill(2, []uint64{held})
				if p.w.Holds() {
					t.Error("ahead of its first move")
				}
				x.move(0)
			}
			for i := 1; i < moveCount(kind, len(value)); i++ {
				if !p.w.Holds() {
					t.Error(kind, i)
				}
				x.move(0)
			}
			for range 3 {
				if p.w.Holds() {
					t.Error("behind its last move")
				}
				x.moves(p, done)
			}
		}
	}
}

// What is handed in is not kept: nobody sees it when it is written to afterwards; what is told is new.
func TestNothingIsShared(t *testing.T) {
	x := newRun(t, leastBits, 0)
	x.lay(1, 1, "12345678")
	a := x.joins(adder, 1, 1, "", 1)
	b := x.joins(adder, 1, 1, "", 2)
	c := x.joins(reader, 1, 1, "        ", 0)
	d := x.joins(reader, 1, 1, "        ", 0)
	x.moves(c, more, more)
	goes(t, x, a, 4)
	goes(t, x, b, 4)
	x.moves(d, more, more)
	x.moves(c, busy, more, more, done)
	goes(t, x, x.joins(writer, 1, 1, "abcdefgh", 0), 3)
	x.moves(d, busy, more, more, done)
	if c.r.Value() != "42345678" || d.r.Value() != "abcdefgh" {
		t.Error(c.r.Value(), d.r.Value())
	}
}

// Bytes of all sorts come back as they were.
func TestAllBytes(t *testing.T) {
	var s []byte
	for i := range 256 {
		s = append(s, byte(i))
	}
	for at := 0; at < 256; at += 128 {
		value := string(s[at : at+128])
		x := newRun(t, leastBits, 0)
		x.lay(1, 64, strings.Repeat("-", 128))
		goes(t, x, x.joins(writer, 1, 64, value, 0), 18)
		r := x.joins(reader, 1, 64, value, 0)
		goes(t, x, r, 18)
		if r.r.Value() != value {
			t.Errorf("%q", r.r.Value())
		}
	}
}
