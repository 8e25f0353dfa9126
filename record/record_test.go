package record_test

import (
	"math"
	"math/rand"
	"slices"
	"strings"
	"testing"

	"haycroft/api"
	"haycroft/record"
)

// The places and bounds of the chapters as numbers, written out, so that nothing here leans on the program's own ones.
const (
	ones   = uint64(math.MaxUint64)
	top    = uint64(281474976710655)     // the greatest address, 2^48 - 1
	bit48  = uint64(281474976710656)     // of a tomb
	bit49  = uint64(562949953421312)     // of one that is invalid
	bit50  = uint64(1125899906842624)    // from here on a header has nothing
	bit63  = uint64(9223372036854775808) // of somebody who writes
	round  = uint64(4294967296)          // 2^32, of counts
	marked = uint64(189850439385088)     // 44203 times 2^32
	part   = uint64(65536)
	keyMax = 64
	valMax = 128
	manyOf = 20000
)

// yesNo are both.
func yesNo() []bool {
	return []bool{false, true}
}

// textWords lays a text by place values, eight bytes a word.
func textWords(s string) []uint64 {
	var l []uint64
	unit := uint64(1)
	for i, c := range []byte(s) {
		if i%8 == 0 {
			l = append(l, 0)
			unit = 1
		}
		l[len(l)-1] += uint64(c) * unit
		unit *= 256
	}
	return l
}

// lengthsWord lays lengths by place values.
func lengthsWord(key, value int) uint64 {
	return uint64(key) + uint64(value)*part + marked
}

// laid are a record's words, by place values.
func laid(r api.Record) []uint64 {
	head := r.Header.Prev
	if r.Header.Tomb {
		head += bit48
	}
	if r.Header.Invalid {
		head += bit49
	}
	l := []uint64{head, 0, lengthsWord(len(r.Key), len(r.Value))}
	l = append(l, textWords(r.Key)...)
	return append(l, textWords(r.Value)...)
}

// wordsOf counts, one by one, how many words so many bytes fill.
func wordsOf(n int) int {
	words := 0
	for ; n > 0; n -= 8 {
		words++
	}
	return words
}

// judged says what of a record is wrong, as the chapter does.
func judged(r api.Record) api.Errno {
	switch {
	case r.Header.Prev > top, len(r.Key) == 0, r.Header.Tomb && len(r.Value) > 0:
		return api.ErrArg
	case len(r.Key) > keyMax, len(r.Value) > valMax:
		return api.ErrLong
	}
	return api.OK
}

// textOf takes n bytes from words, and says whether nothing but noughts stands behind them.
func textOf(l []uint64, n int) (string, bool) {
	var b []byte
	for _, w := range l {
		for range 8 {
			b = append(b, byte(w%256))
			w /= 256
		}
	}
	for _, c := range b[n:] {
		if c != 0 {
			return "", false
		}
	}
	return string(b[:n]), true
}

// headTold says what Head has to tell.
func headTold(l []uint64) (int, int, api.Errno) {
	if len(l) < 3 {
		return 0, 0, api.ErrShort
	}
	key, value := int(l[2]%part), int(l[2]/part%part)
	if l[2]/round != 44203 || key > keyMax || value > valMax {
		return 0, 0, api.ErrForm
	}
	return key, value, api.OK
}

// ofTold says what Of has to tell.
func ofTold(l []uint64) (api.Record, int, api.Errno) {
	key, value, e := headTold(l)
	if e != api.OK {
		return api.Record{}, 0, e
	}
	at := 3 + wordsOf(key)
	size := at + wordsOf(value)
	if len(l) < size {
		return api.Record{}, 0, api.ErrShort
	}
	k, clean := textOf(l[3:at], key)
	v, cleanToo := textOf(l[at:size], value)
	tomb := l[0]/bit48%2 == 1
	if l[0] >= bit50 || l[1] >= round || !clean || !cleanToo || key == 0 || tomb && value > 0 {
		return api.Record{}, 0, api.ErrForm
	}
	h := api.Header{Prev: l[0] % bit48, Tomb: tomb, Invalid: l[0]/bit49%2 == 1}
	return api.Record{Header: h, Key: k, Value: v}, size, api.OK
}

// text is one of n bytes, each other than its neighbours, some of them 0 or 255.
func text(n int) string {
	b := make([]byte, n)
	for i := range b {
		b[i] = byte(i*51 + n*7)
	}
	return string(b)
}

// texts are several of n bytes.
func texts(n int) []string {
	l := []string{text(n), strings.Repeat("\x00", n), strings.Repeat("\xff", n), strings.Repeat("k", n)}
	if n > 1 {
		l = append(l, "\x00"+strings.Repeat("\xff", n-1), strings.Repeat("\xff", n-1)+"\x00", strings.Repeat("\x00", n-1)+"\x01")
	}
	return l
}

// headers are such as may be.
func headers() []api.Header {
	var l []api.Header
	for _, prev := range []uint64{0, 1, 9, 0x123456789abc, top - 1, top} {
		for _, tomb := range yesNo() {
			for _, invalid := range yesNo() {
				l = append(l, api.Header{Prev: prev, Tomb: tomb, Invalid: invalid})
			}
		}
	}
	return l
}

// edgeKeys and edgeValues are lengths at the edges.
func edgeKeys() []int {
	return []int{1, 7, 8, 9, 15, 16, 17, 63, 64}
}

func edgeValues() []int {
	return []int{0, 1, 7, 8, 9, 15, 16, 17, 120, 121, 127, 128}
}

// records are such as may be: all headers, lengths at the edges.
func records() []api.Record {
	var l []api.Record
	for _, h := range headers() {
		for _, key := range edgeKeys() {
			for _, value := range edgeValues() {
				if h.Tomb && value > 0 {
					continue
				}
				for i, k := range texts(key) {
					v := texts(value)[i%len(texts(value))]
					l = append(l, api.Record{Header: h, Key: k, Value: v})
				}
			}
		}
	}
	return l
}

// behinds are words that may stand behind a record's.
func behinds() [][]uint64 {
	return [][]uint64{nil, {}, {0}, {1}, {ones}, {0, 0, 0}, {5, 6, 7, 8}, {9, 0, lengthsWord(1, 0), 'b'}, slices.Repeat([]uint64{ones}, 40)}
}

// puts is a Words that must do.
func puts(t *testing.T, r api.Record, want []uint64) {
	t.Helper()
	if g, e := record.Words(r); !slices.Equal(g, want) || e != api.OK {
		t.Fatalf("Words(%#v) is %x, error %d, not %x", r, g, e, want)
	}
	if e := record.Right(r); e != api.OK {
		t.Fatalf("Right(%#v) is %d", r, e)
	}
}

// refuses are a Right and a Words that must not do.
func refuses(t *testing.T, r api.Record, want api.Errno) {
	t.Helper()
	if e := record.Right(r); e != want {
		t.Fatalf("Right(%#v) is %d, not %d", r, e, want)
	}
	if g, e := record.Words(r); len(g) != 0 || e != want {
		t.Fatalf("Words(%#v) is %x, error %d, not %d", r, g, e, want)
	}
}

// reads is an Of that must do.
func reads(t *testing.T, l []uint64, want api.Record, size int) {
	t.Helper()
	if r, n, e := record.Of(l); r != want || n != size || e != api.OK {
		t.Fatalf("Of(%x) is %#v, %d, error %d, not %#v, %d", l, r, n, e, want, size)
	}
}

// noRecord is an Of that must not do.
func noRecord(t *testing.T, l []uint64, want api.Errno) {
	t.Helper()
	if r, n, e := record.Of(l); r != (api.Record{}) || n != 0 || e != want {
		t.Fatalf("Of(%x) is %#v, %d, error %d, not %d", l, r, n, e, want)
	}
}

// heads is a Head that must tell this.
func heads(t *testing.T, l []uint64, key, value int, want api.Errno) {
	t.Helper()
	if k, v, e := record.Head(l); k != key || v != value || e != want {
		t.Fatalf("Head(%x) is %d, %d, error %d, not %d, %d, error %d", l, k, v, e, key, value, want)
	}
}

// agrees holds Of and Head against what they have to tell.
func agrees(t *testing.T, l []uint64) api.Errno {
	t.Helper()
	want, size, e := ofTold(l)
	if e == api.OK {
		reads(t, l, want, size)
	} else {
		noRecord(t, l, e)
	}
	key, value, he := headTold(l)
	heads(t, l, key, value, he)
	return e
}

// with is a copy of words with another one at a place.
func with(l []uint64, at int, w uint64) []uint64 {
	c := slices.Clone(l)
	c[at] = w
	return c
}

// P9.1

func TestHeadWords(t *testing.T) {
	if record.HeadWords != 3 {
		t.Error(record.HeadWords)
	}
}

func TestRightByHand(t *testing.T) {
	long, longer := strings.Repeat("k", 65), strings.Repeat("v", 129)
	tomb := api.Header{Tomb: true}
	far := api.Header{Prev: api.MaxAddr + 1}
	for i, x := range []struct {
		r    api.Record
		want api.Errno
	}{
		{api.Record{Key: "a"}, api.OK},
		{api.Record{Key: "\x00"}, api.OK},
		{api.Record{Key: "a", Value: "\x00"}, api.OK},
		{api.Record{Header: api.Header{Prev: api.MaxAddr}, Key: "a"}, api.OK},
		{api.Record{Header: api.Header{Invalid: true}, Key: "a", Value: "v"}, api.OK},
		{api.Record{Header: tomb, Key: "a"}, api.OK},
		{api.Record{Header: api.Header{Tomb: true, Invalid: true}, Key: "a"}, api.OK},
		{api.Record{Header: api.Header{Prev: api.MaxAddr, Tomb: true, Invalid: true}, Key: long[1:]}, api.OK},
		{api.Record{Key: long[1:], Value: longer[1:]}, api.OK},

		{api.Record{}, api.ErrArg},
		{api.Record{Value: "v"}, api.ErrArg},
		{api.Record{Header: far, Key: "a"}, api.ErrArg},
		{api.Record{Header: api.Header{Prev: ones}, Key: "a"}, api.ErrArg},
		{api.Record{Header: tomb}, api.ErrArg},
		{api.Record{Header: tomb, Key: "a", Value: "v"}, api.ErrArg},
		{api.Record{Header: tomb, Key: "a", Value: "\x00"}, api.ErrArg},

		{api.Record{Key: long}, api.ErrLong},
		{api.Record{Key: "a", Value: longer}, api.ErrLong},
		{api.Record{Key: long, Value: longer}, api.ErrLong},
		{api.Record{Key: longer, Value: "v"}, api.ErrLong},
		{api.Record{Header: tomb, Key: long}, api.ErrLong},

		// What can't be is told ahead of what is too long.
		{api.Record{Header: far, Key: long}, api.ErrArg},
		{api.Record{Header: far, Key: "a", Value: longer}, api.ErrArg},
		{api.Record{Header: far, Key: long, Value: longer}, api.ErrArg},
		{api.Record{Value: longer}, api.ErrArg},
		{api.Record{Header: tomb, Key: long, Value: "v"}, api.ErrArg},
		{api.Record{Header: tomb, Key: "a", Value: longer}, api.ErrArg},
		{api.Record{Header: tomb, Key: long, Value: longer}, api.ErrArg},
	} {
		if g := record.Right(x.r); g != x.want {
			t.Errorf("%d: Right(%#v) is %d, not %d", i, x.r, g, x.want)
		}
		if x.want == api.OK {
			puts(t, x.r, laid(x.r))
		} else {
			refuses(t, x.r, x.want)
		}
	}
}

func TestRightOfAllLengths(t *testing.T) {
	all := append(headers(), api.Header{Prev: top + 1}, api.Header{Prev: top + 1, Tomb: true}, api.Header{Prev: ones, Invalid: true})
	for _, h := range all {
		for key := range 68 {
			for value := range 132 {
				r := api.Record{Header: h, Key: text(key), Value: text(value)}
				if want := judged(r); record.Right(r) != want {
					t.Fatalf("Right(%#v) is %d, not %d", r, record.Right(r), want)
				}
			}
		}
	}
}

func TestRightOfPrevsThatMayNotBe(t *testing.T) {
	for i := 48; i < 64; i++ {
		for _, prev := range []uint64{1 << i, 1<<i + 1, 1<<i + top} {
			for _, tomb := range yesNo() {
				for _, invalid := range yesNo() {
					refuses(t, api.Record{Header: api.Header{Prev: prev, Tomb: tomb, Invalid: invalid}, Key: "a"}, api.ErrArg)
				}
			}
		}
	}
}

func TestTextsThatAreFarTooLong(t *testing.T) {
	// Some of these would be right, if their lengths went round in the bits that they have.
	for _, n := range []int{129, 255, 256, 257, 65535, 65536, 65537, 65536 + 64, 1 << 20} {
		s := strings.Repeat("x", n)
		refuses(t, api.Record{Key: s}, api.ErrLong)
		refuses(t, api.Record{Key: "a", Value: s}, api.ErrLong)
		refuses(t, api.Record{Key: s, Value: s}, api.ErrLong)
		refuses(t, api.Record{Value: s}, api.ErrArg)
		refuses(t, api.Record{Header: api.Header{Tomb: true}, Key: s}, api.ErrLong)
		refuses(t, api.Record{Header: api.Header{Tomb: true}, Key: "a", Value: s}, api.ErrArg)
	}
}

func TestSizeByHand(t *testing.T) {
	for _, x := range []struct{ key, value, want int }{
		{1, 0, 4}, // the example of the chapter
		{0, 0, 3}, {0, 1, 4}, {0, 8, 4}, {0, 9, 5}, {0, 128, 19},
		{1, 1, 5}, {7, 0, 4}, {8, 0, 4}, {9, 0, 5}, {64, 0, 11},
		{1, 7, 5}, {1, 8, 5}, {1, 9, 6}, {1, 128, 20}, {9, 2, 6},
		{64, 128, 27}, {63, 127, 27}, {64, 120, 26}, {56, 128, 26},
		{65, 0, 0}, {0, 129, 0}, {65, 129, 0}, {64, 129, 0}, {65, 128, 0},
		{-1, 0, 0}, {0, -1, 0}, {-1, -1, 0}, {-1, 129, 0}, {65, -1, 0}, {-1, 8, 0}, {8, -1, 0},
	} {
		if g := record.Size(x.key, x.value); g != x.want {
			t.Errorf("Size(%d, %d) is %d, not %d", x.key, x.value, g, x.want)
		}
	}
}

func TestSizeOfAllLengths(t *testing.T) {
	for key := -20; key <= 150; key++ {
		for value := -20; value <= 150; value++ {
			want := 0
			if key >= 0 && value >= 0 && key <= keyMax && value <= valMax {
				want = 3 + wordsOf(key) + wordsOf(value)
			}
			if g := record.Size(key, value); g != want {
				t.Fatalf("Size(%d, %d) is %d, not %d", key, value, g, want)
			}
		}
	}
}

// farLengths are beyond all bounds; some of them would be right, if they went round.
func farLengths() []int {
	return []int{math.MinInt, math.MinInt + 1, math.MinInt + 8, -1 << 32, -1<<32 + 8, -65536, -65536 + 8, -256 + 8, -65, -8, -7,
		256 + 8, 65535, 65536, 65536 + 8, 1<<31 - 1, 1 << 31, 1 << 32, 1<<32 + 8, math.MaxInt - 7, math.MaxInt - 1, math.MaxInt}
}

func TestSizeAndValueAtFarOutside(t *testing.T) {
	for _, n := range farLengths() {
		for _, other := range append([]int{-1, 0, 1, 8, 64, 65, 128, 129}, farLengths()...) {
			if a, b := record.Size(n, other), record.Size(other, n); a != 0 || b != 0 {
				t.Errorf("Size(%d, %d) is %d, and turned round %d", n, other, a, b)
			}
		}
		if g := record.ValueAt(n); g != 0 {
			t.Errorf("ValueAt(%d) is %d", n, g)
		}
	}
}

func TestWordsByHand(t *testing.T) {
	for _, x := range []struct {
		r    api.Record
		want []uint64
	}{
		{api.Record{Key: "a"}, []uint64{0, 0, 0x0000acab00000001, 0x61}},
		{api.Record{Key: "\x00", Value: "\x00"}, []uint64{0, 0, 0x0000acab00010001, 0, 0}},
		{api.Record{Key: "\xff", Value: "\xff"}, []uint64{0, 0, 0x0000acab00010001, 0xff, 0xff}},
		{api.Record{Header: api.Header{Prev: 9}, Key: "abcdefghi", Value: "xy"},
			[]uint64{9, 0, 0x0000acab00020009, 0x6867666564636261, 0x69, 0x7978}},
		{api.Record{Header: api.Header{Prev: 9, Tomb: true}, Key: "abcdefgh"},
			[]uint64{0x0001000000000009, 0, 0x0000acab00000008, 0x6867666564636261}},
		{api.Record{Header: api.Header{Invalid: true}, Key: "abcdefg", Value: "12345678"},
			[]uint64{0x0002000000000000, 0, 0x0000acab00080007, 0x67666564636261, 0x3837363534333231}},
		{api.Record{Header: api.Header{Prev: api.MaxAddr, Tomb: true, Invalid: true}, Key: "k"},
			[]uint64{0x0003ffffffffffff, 0, 0x0000acab00000001, 0x6b}},
		{api.Record{Header: api.Header{Prev: api.MaxAddr, Invalid: true}, Key: "k", Value: "123456789"},
			[]uint64{0x0002ffffffffffff, 0, 0x0000acab00090001, 0x6b, 0x3837363534333231, 0x39}},
	} {
		puts(t, x.r, x.want)
		reads(t, x.want, x.r, len(x.want))
	}
}

func TestWordsOfAllLengths(t *testing.T) {
	for key := 1; key <= keyMax; key++ {
		for value := range valMax + 1 {
			r := api.Record{Header: api.Header{Prev: uint64(key*1000 + value)}, Key: text(key), Value: text(value)}
			puts(t, r, laid(r))
			if l, _ := record.Words(r); len(l) != record.Size(key, value) {
				t.Fatal(key, value, len(l), record.Size(key, value))
			}
		}
	}
}

func TestWordsAtTheEdges(t *testing.T) {
	for _, r := range records() {
		puts(t, r, laid(r))
	}
}

// P9.2

func TestOfExactWords(t *testing.T) {
	for _, r := range records() {
		l := laid(r)
		reads(t, l, r, len(l))
		heads(t, l, len(r.Key), len(r.Value), api.OK)
	}
}

func TestOfTooFewWords(t *testing.T) {
	for _, key := range edgeKeys() {
		for _, value := range edgeValues() {
			r := api.Record{Header: api.Header{Prev: 5}, Key: text(key), Value: text(value)}
			l := laid(r)
			for n := range l {
				noRecord(t, l[:n], api.ErrShort)
				if n < 3 {
					heads(t, l[:n], 0, 0, api.ErrShort)
				} else {
					heads(t, l[:n], key, value, api.OK)
				}
			}
			// The spare room behind counts for nothing, though the missing words stand there.
			noRecord(t, append(slices.Clone(l), 1, 2, 3)[:len(l)-1], api.ErrShort)
		}
	}
	for _, l := range [][]uint64{nil, {}} {
		noRecord(t, l, api.ErrShort)
		heads(t, l, 0, 0, api.ErrShort)
	}
}

func TestOfWithOneWordLeftOut(t *testing.T) {
	// Where a word is left out, those behind move up: what comes of it is what these words say.
	told := map[api.Errno]int{}
	for _, key := range edgeKeys() {
		for _, value := range edgeValues() {
			l := laid(api.Record{Header: api.Header{Prev: 5}, Key: strings.Repeat("k", key), Value: text(value)})
			for at := range l {
				short := slices.Delete(slices.Clone(l), at, at+1)
				told[agrees(t, short)]++
				told[agrees(t, append(short, 0))]++
			}
		}
	}
	if told[api.ErrShort] == 0 || told[api.ErrForm] == 0 || told[api.OK] == 0 {
		t.Error(told)
	}
}

func TestOfWithMoreBehind(t *testing.T) {
	for _, key := range edgeKeys() {
		for _, value := range edgeValues() {
			r := api.Record{Header: api.Header{Prev: 5, Invalid: true}, Key: text(key), Value: text(value)}
			for _, behind := range behinds() {
				l := laid(r)
				reads(t, append(slices.Clone(l), behind...), r, len(l))
			}
		}
	}
}

func TestOfHeaders(t *testing.T) {
	r := api.Record{Key: "abc"}
	for _, h := range headers() {
		r.Header = h
		reads(t, laid(r), r, 4)
	}
	l := laid(api.Record{Key: "abc", Value: "v"})
	for i := 50; i < 64; i++ {
		noRecord(t, with(l, 0, 1<<i), api.ErrForm)
		noRecord(t, with(l, 0, 1<<i+5), api.ErrForm)
		noRecord(t, with(l, 0, 1<<i+bit49+top), api.ErrForm)
	}
	noRecord(t, with(l, 0, ones), api.ErrForm)
}

func TestOfLocks(t *testing.T) {
	r := api.Record{Header: api.Header{Prev: 5}, Key: "abcdefghi", Value: "xyz"}
	l := laid(r)
	for _, count := range []uint64{0, 1, 2, 77, 1<<31 - 1, 1 << 31, round - 2, round - 1} {
		reads(t, with(l, 1, count), r, 6)
		noRecord(t, with(l, 1, bit63+count), api.ErrForm)
		for i := 32; i < 63; i++ {
			noRecord(t, with(l, 1, count+1<<i), api.ErrForm)
			noRecord(t, with(l, 1, bit63+count+1<<i), api.ErrForm)
		}
	}
	for i := range 32 {
		reads(t, with(l, 1, 1<<i), r, 6)
		reads(t, with(l, 1, round-1-1<<i), r, 6)
	}
	noRecord(t, with(l, 1, ones), api.ErrForm)
	// Who reads the lengths alone doesn't ask who writes.
	for _, lock := range []uint64{1, round - 1, round, bit63, bit63 + 7, ones} {
		heads(t, with(l, 1, lock), 9, 3, api.OK)
	}
}

func TestOfLengths(t *testing.T) {
	behind := slices.Repeat([]uint64{0}, 40)
	for key := range 140 {
		for value := range 140 {
			l := append([]uint64{5, 0, lengthsWord(key, value)}, behind...)
			switch {
			case key > keyMax || value > valMax:
				noRecord(t, l, api.ErrForm)
				heads(t, l, 0, 0, api.ErrForm)
			case key == 0:
				noRecord(t, l, api.ErrForm)
				heads(t, l, 0, value, api.OK)
			default:
				want := api.Record{Header: api.Header{Prev: 5}, Key: strings.Repeat("\x00", key), Value: strings.Repeat("\x00", value)}
				reads(t, l, want, 3+wordsOf(key)+wordsOf(value))
				heads(t, l, key, value, api.OK)
			}
		}
	}
}

func TestOfAWordThatIsNoLengths(t *testing.T) {
	behind := slices.Repeat([]uint64{0}, 40)
	wrong := []uint64{0, 1, ones, 3 + 8*part, bit63, marked - 1, marked - round, marked + round, lengthsWord(65, 0), lengthsWord(0, 129), lengthsWord(1, 129), lengthsWord(65, 8), lengthsWord(65535, 65535)}
	for i := 48; i < 64; i++ {
		wrong = append(wrong, lengthsWord(3, 8)+1<<i)
	}
	for i := 32; i < 48; i++ {
		wrong = append(wrong, lengthsWord(3, 8)^1<<i)
	}
	for _, w := range wrong {
		for _, more := range [][]uint64{nil, behind[:1], behind} {
			l := append([]uint64{5, 0, w}, more...)
			noRecord(t, l, api.ErrForm)
			heads(t, l, 0, 0, api.ErrForm)
		}
	}
}

func TestOfAnEmptyKey(t *testing.T) {
	for _, value := range edgeValues() {
		l := append([]uint64{5, 0, lengthsWord(0, value)}, textWords(text(value))...)
		noRecord(t, l, api.ErrForm)
		noRecord(t, append(l, 1, 2, 3), api.ErrForm)
		heads(t, l, 0, value, api.OK)
		heads(t, l[:3], 0, value, api.OK)
		// As many as words of such lengths would be are asked for first.
		if value > 0 {
			noRecord(t, l[:len(l)-1], api.ErrShort)
		}
	}
}

func TestOfBytesBehindTheEnds(t *testing.T) {
	for _, key := range edgeKeys() {
		for _, value := range edgeValues() {
			r := api.Record{Header: api.Header{Prev: 5}, Key: text(key), Value: text(value)}
			l := laid(r)
			at := 3 + wordsOf(key)
			for i := key; i < wordsOf(key)*8; i++ {
				for _, bit := range []int{0, 3, 7} {
					place := 3 + i/8
					noRecord(t, with(l, place, l[place]+1<<(i%8*8+bit)), api.ErrForm)
				}
			}
			for i := value; i < wordsOf(value)*8; i++ {
				for _, bit := range []int{0, 3, 7} {
					place := at + i/8
					noRecord(t, with(l, place, l[place]+1<<(i%8*8+bit)), api.ErrForm)
				}
			}
		}
	}
}

func TestOfATombWithAValue(t *testing.T) {
	for _, prev := range []uint64{0, 5, top} {
		for _, value := range edgeValues() {
			for _, key := range edgeKeys() {
				r := api.Record{Header: api.Header{Prev: prev, Tomb: true}, Key: text(key), Value: text(value)}
				l := laid(r)
				if value == 0 {
					reads(t, l, r, len(l))
					continue
				}
				noRecord(t, l, api.ErrForm)
				noRecord(t, with(l, 0, prev+bit48+bit49), api.ErrForm)
				noRecord(t, append(l, 7), api.ErrForm)
				noRecord(t, l[:len(l)-1], api.ErrShort)
				heads(t, l, key, value, api.OK)
			}
		}
	}
}

func TestWhichErrorOfWordsComesFirst(t *testing.T) {
	l := laid(api.Record{Header: api.Header{Prev: 5}, Key: "abcdefghi", Value: "xyz"})
	// All that is wrong beside the lengths is asked for behind the number of words.
	wrong := [][]uint64{with(l, 0, bit50), with(l, 0, ones), with(l, 1, bit63), with(l, 1, round), with(l, 1, ones), with(l, 0, bit48), with(l, 4, ones), with(l, 5, ones)}
	for _, w := range wrong {
		noRecord(t, w, api.ErrForm)
		for n := range w {
			noRecord(t, w[:n], api.ErrShort)
		}
	}
	// Where the lengths are wrong, nobody can say how many words they'd be: but three at first.
	for _, w := range [][]uint64{with(l, 2, 0), with(l, 2, ones), with(l, 2, lengthsWord(65, 128)), with(l, 2, lengthsWord(64, 129))} {
		for n := range len(w) + 1 {
			want := api.ErrForm
			if n < 3 {
				want = api.ErrShort
			}
			noRecord(t, w[:n], want)
			heads(t, w[:n], 0, 0, want)
		}
	}
	noRecord(t, []uint64{ones, ones}, api.ErrShort)
	noRecord(t, []uint64{ones, ones, ones}, api.ErrForm)
}

func TestHeadByTheLengthsAlone(t *testing.T) {
	for key := range keyMax + 1 {
		for value := range valMax + 1 {
			w := lengthsWord(key, value)
			for _, l := range [][]uint64{{0, 0, w}, {ones, ones, w}, {bit48, bit63, w, ones}, {1, 2, w, 3, 4, 5, 6}} {
				heads(t, l, key, value, api.OK)
			}
		}
	}
	for _, l := range [][]uint64{{lengthsWord(1, 2)}, {0, lengthsWord(1, 2)}, {lengthsWord(1, 2), lengthsWord(1, 2)}} {
		heads(t, l, 0, 0, api.ErrShort)
	}
	for _, l := range [][]uint64{{lengthsWord(1, 2), 0, 0}, {0, lengthsWord(1, 2), 0}, {0, 0, 0, lengthsWord(1, 2)}} {
		heads(t, l, 0, 0, api.ErrForm)
	}
}

func TestValueAt(t *testing.T) {
	for _, x := range []struct{ key, want int }{
		{-1, 0}, {0, 3}, {1, 4}, {7, 4}, {8, 4}, {9, 5}, {16, 5}, {17, 6}, {63, 11}, {64, 11}, {65, 0}, {66, 0}, {72, 0}, {128, 0}, {129, 0},
	} {
		if g := record.ValueAt(x.key); g != x.want {
			t.Errorf("ValueAt(%d) is %d, not %d", x.key, g, x.want)
		}
	}
	for key := -20; key <= 150; key++ {
		want := 0
		if key >= 0 && key <= keyMax {
			want = 3 + wordsOf(key)
		}
		if g := record.ValueAt(key); g != want {
			t.Errorf("ValueAt(%d) is %d, not %d", key, g, want)
		}
	}
}

func TestTheValueStandsWhereValueAtTells(t *testing.T) {
	for key := 1; key <= keyMax; key++ {
		for _, value := range edgeValues() {
			s := text(value)
			l, _ := record.Words(api.Record{Key: text(key), Value: s})
			if at := record.ValueAt(key); !slices.Equal(l[at:], textWords(s)) {
				t.Errorf("a value of %d bytes behind a key of %d: %x", value, key, l[at:])
			}
		}
	}
}

func TestOfEachBitTurned(t *testing.T) {
	told := map[api.Errno]int{}
	for _, r := range records() {
		if r.Header.Prev != 9 {
			continue
		}
		l := laid(r)
		for at := range l {
			for i := range 64 {
				told[agrees(t, with(l, at, l[at]^1<<i))]++
			}
		}
	}
	if told[api.OK] == 0 || told[api.ErrShort] == 0 || told[api.ErrForm] == 0 {
		t.Error(told)
	}
}

// anyWords are words of any sort, near a record's in some places.
func anyWords(r *rand.Rand) []uint64 {
	l := make([]uint64, r.Intn(32))
	for i := range l {
		switch {
		case i == 1 && r.Intn(5) > 0:
			l[i] = r.Uint64() % round
		case i == 2 && r.Intn(8) > 0:
			l[i] = lengthsWord(r.Intn(67), r.Intn(132))
		case r.Intn(4) > 0:
			l[i] = r.Uint64() >> r.Intn(64)
		default:
			l[i] = r.Uint64() & r.Uint64() & r.Uint64()
		}
	}
	return l
}

func TestOfAnyWords(t *testing.T) {
	told := map[api.Errno]int{}
	r := rand.New(rand.NewSource(9))
	for range 10 * manyOf {
		told[agrees(t, anyWords(r))]++
	}
	if told[api.OK] < 100 || told[api.ErrShort] < 100 || told[api.ErrForm] < 100 {
		t.Error(told)
	}
}

// P9.3

func TestNumberByHand(t *testing.T) {
	for _, x := range []struct {
		value string
		want  uint64
	}{
		{"", 0},
		{"1", 0},
		{"short", 0},
		{"1234567", 0},
		{"123456789", 0},
		{strings.Repeat("1", 16), 0},
		{strings.Repeat("1", 128), 0},
		{strings.Repeat("1", 129), 0},
		{"\x00\x00\x00\x00\x00\x00\x00\x00", 0},
		{"\x01\x00\x00\x00\x00\x00\x00\x00", 1},
		{"\x02\x01\x00\x00\x00\x00\x00\x00", 258},
		{"\x00\x00\x00\x00\x00\x00\x00\x01", 1 << 56},
		{"\x00\x00\x00\x00\x00\x00\x00\x80", 1 << 63},
		{"\xff\xff\xff\xff\xff\xff\xff\xff", ones},
		{"\xfe\xff\xff\xff\xff\xff\xff\xff", ones - 1},
		{"12345678", 0x3837363534333231},
		{"\x08\x07\x06\x05\x04\x03\x02\x01", 0x0102030405060708},
	} {
		if g := record.Number(x.value); g != x.want {
			t.Errorf("Number(%q) is %d, not %d", x.value, g, x.want)
		}
		if len(x.value) == 8 && record.Value(x.want) != x.value {
			t.Errorf("Value(%d) is %q, not %q", x.want, record.Value(x.want), x.value)
		}
	}
}

func TestNumberOfOtherLengths(t *testing.T) {
	for n := range 200 {
		for _, s := range texts(n) {
			want := uint64(0)
			if n == 8 {
				want = textWords(s)[0]
			}
			if g := record.Number(s); g != want {
				t.Errorf("Number(%q) is %d, not %d", s, g, want)
			}
		}
	}
}

// numbers are of all sorts.
func numbers() []uint64 {
	l := []uint64{0, 1, 2, 255, 256, 258, 65535, round - 1, round, bit63 - 1, bit63, bit63 + 1, ones - 1, ones, 0x0123456789abcdef}
	for i := range 64 {
		l = append(l, 1<<i, ones-1<<i)
	}
	r := rand.New(rand.NewSource(93))
	for range manyOf {
		l = append(l, r.Uint64()>>r.Intn(64))
	}
	return l
}

// numberText lays a number by place values, the lowest byte first.
func numberText(n uint64) string {
	var b []byte
	for range 8 {
		b = append(b, byte(n%256))
		n /= 256
	}
	return string(b)
}

func TestValue(t *testing.T) {
	for _, n := range numbers() {
		if g := record.Value(n); g != numberText(n) {
			t.Fatalf("Value(%d) is %q, not %q", n, g, numberText(n))
		}
	}
}

func TestAddsByHand(t *testing.T) {
	for _, x := range []struct {
		value string
		n     uint64
		want  uint64
	}{
		{"", 0, 0},
		{"", 5, 5},
		{"x", 2, 2},
		{"1234567", 7, 7},
		{"123456789", 7, 7},
		{strings.Repeat("\xff", 128), ones, ones},
		{numberText(0), 0, 0},
		{numberText(5), 7, 12},
		{numberText(5), 0, 5},
		{numberText(255), 1, 256},
		{numberText(ones), 0, ones},
		{numberText(ones), 1, 0},
		{numberText(ones), 2, 1},
		{numberText(1), ones, 0},
		{numberText(ones), ones, ones - 1},
		{numberText(bit63), bit63, 0},
		{numberText(bit63), bit63 - 1, ones},
	} {
		if g := record.Adds(x.value, x.n); g != numberText(x.want) {
			t.Errorf("Adds(%q, %d) is %q, not %q", x.value, x.n, g, numberText(x.want))
		}
	}
}

func TestAddsOfManyNumbers(t *testing.T) {
	l := numbers()
	for i, n := range l {
		m := l[(i*7+3)%len(l)]
		// Byte by byte with a carry, so that nothing here goes round.
		carry := 0
		var want []byte
		for at := range 8 {
			sum := int(numberText(n)[at]) + int(numberText(m)[at]) + carry
			want = append(want, byte(sum%256))
			carry = sum / 256
		}
		if g := record.Adds(numberText(n), m); g != string(want) {
			t.Fatalf("Adds of %d and %d is %q, not %q", n, m, g, want)
		}
	}
}

// P9.4

func TestWhatIsInWordsIsReadAsItWas(t *testing.T) {
	for i, r := range records() {
		l, e := record.Words(r)
		if e != api.OK {
			t.Fatalf("Words(%#v): error %d", r, e)
		}
		behind := behinds()[i%len(behinds())]
		reads(t, append(slices.Clone(l), behind...), r, len(l))
	}
	for key := 1; key <= keyMax; key++ {
		for value := range valMax + 1 {
			r := api.Record{Header: api.Header{Prev: top, Invalid: key%2 == 0}, Key: text(key), Value: text(value)}
			l, _ := record.Words(r)
			reads(t, l, r, record.Size(key, value))
			reads(t, append(l, ones, 0, ones), r, record.Size(key, value))
		}
	}
}

func TestRecordsBehindEachOther(t *testing.T) {
	var l []uint64
	all := records()
	for _, r := range all {
		words, _ := record.Words(r)
		l = append(l, words...)
	}
	for _, want := range all {
		r, n, e := record.Of(l)
		if r != want || e != api.OK {
			t.Fatalf("%#v, error %d, not %#v", r, e, want)
		}
		l = l[n:]
	}
	if len(l) != 0 {
		t.Error(len(l))
	}
}

func TestWhatIsReadIsPutInWordsAgain(t *testing.T) {
	right := 0
	r := rand.New(rand.NewSource(94))
	for range 10 * manyOf {
		l := anyWords(r)
		x, n, e := record.Of(l)
		if e != api.OK {
			continue
		}
		right++
		// But for the lock, of which a record tells nothing.
		puts(t, x, with(l[:n], 1, 0))
	}
	if right < 100 {
		t.Error("only so many words were records'", right)
	}
}

func TestNumberOfValue(t *testing.T) {
	for _, n := range numbers() {
		if g := record.Number(record.Value(n)); g != n {
			t.Fatalf("%d came back as %d", n, g)
		}
		if s := record.Value(n); len(s) != 8 || record.Value(record.Number(s)) != s {
			t.Fatalf("%q of %d", s, n)
		}
	}
}

// The rules that hold everywhere.

func TestWhatIsHandedInStaysAsItIs(t *testing.T) {
	r := api.Record{Header: api.Header{Prev: 5}, Key: "abcdefghi", Value: "xyz"}
	full := append(laid(r), 7, 8, 9)
	for _, l := range [][]uint64{full, with(full, 0, ones), with(full, 1, 77), with(full, 1, bit63), with(full, 2, 0), with(full, 4, ones)} {
		was := slices.Clone(l)
		for n := range l {
			record.Of(l[:n])
			record.Head(l[:n])
		}
		if !slices.Equal(l, was) {
			t.Errorf("%x, and it was %x", l, was)
		}
	}
}

func TestWhatIsHandedOutIsTheCallersOwn(t *testing.T) {
	r := api.Record{Header: api.Header{Prev: 5}, Key: "abcdefghi", Value: "xyz"}
	first, _ := record.Words(r)
	second, _ := record.Words(r)
	for i := range first {
		first[i] = ones
	}
	for i, spare := 0, first[len(first):cap(first)]; i < len(spare); i++ {
		spare[i] = ones
	}
	if !slices.Equal(second, laid(r)) {
		t.Errorf("%x", second)
	}
	puts(t, r, laid(r))

	l := laid(r)
	x, _, _ := record.Of(l)
	for i := range l {
		l[i] = ones
	}
	if x != r {
		t.Errorf("%#v, when the words were changed", x)
	}
}
