package field_test

import (
	"math"
	"slices"
	"strings"
	"testing"

	"haycroft/api"
	"haycroft/field"
)

const ones = uint64(math.MaxUint64)

// sampleWords are some whose bits tell each place from its neighbours.
func sampleWords() []uint64 {
	return []uint64{0, 1, 2, 1 << 63, ones, ones - 1, ones >> 1, 0x0123456789abcdef, 0xfedcba9876543210, 0xaaaaaaaaaaaaaaaa, 0x9e3779b97f4a7c15}
}

// edges are numbers around all the bounds that places and widths have.
func edges() []int {
	l := []int{math.MinInt, math.MinInt + 1, -65, -64, -2, math.MaxInt - 64, math.MaxInt - 63, math.MaxInt - 1, math.MaxInt, 127, 128, 129, 1 << 31, 1 << 32}
	for i := -1; i <= 66; i++ {
		l = append(l, i)
	}
	return l
}

// mayBe says in other words than Right whether a field may be.
func mayBe(at, bits int) bool {
	if at < 0 || at > 63 || bits < 1 || bits > 64 {
		return false
	}
	return at+bits <= 64
}

// bitsOf takes a word apart, bit by bit, the lowest one first.
func bitsOf(w uint64) [64]bool {
	var l [64]bool
	for i := range l {
		l[i] = w%2 == 1
		w /= 2
	}
	return l
}

// wordOf is what bitsOf takes apart.
func wordOf(l [64]bool) uint64 {
	var w uint64
	for i := 63; i >= 0; i-- {
		w *= 2
		if l[i] {
			w++
		}
	}
	return w
}

// valueOf reads a field bit by bit.
func valueOf(w uint64, at, bits int) uint64 {
	l := bitsOf(w)
	var part [64]bool
	copy(part[:], l[at:at+bits])
	return wordOf(part)
}

// withValue writes a field bit by bit.
func withValue(w uint64, at, bits int, v uint64) uint64 {
	l := bitsOf(w)
	part := bitsOf(v)
	copy(l[at:at+bits], part[:bits])
	return wordOf(l)
}

// topOf is the greatest value of 1 to 64 bits.
func topOf(bits int) uint64 {
	return valueOf(ones, 0, bits)
}

// P1.1

func TestRight(t *testing.T) {
	for _, at := range edges() {
		for _, bits := range edges() {
			if got := field.Right(at, bits); got != mayBe(at, bits) {
				t.Errorf("Right(%d, %d) = %v", at, bits, got)
			}
		}
	}
}

func TestMost(t *testing.T) {
	for _, bits := range edges() {
		want := uint64(0)
		if bits >= 64 {
			want = ones
		} else if bits >= 1 {
			want = topOf(bits)
		}
		if got := field.Most(bits); got != want {
			t.Errorf("Most(%d) = %x, want %x", bits, got, want)
		}
	}
	for bits, want := range map[int]uint64{1: 1, 2: 3, 8: 255, 14: 16383, 48: api.MaxAddr, 63: 1<<63 - 1} {
		if got := field.Most(bits); got != want {
			t.Errorf("Most(%d) = %x, want %x", bits, got, want)
		}
	}
}

func TestGet(t *testing.T) {
	for _, w := range sampleWords() {
		for _, at := range edges() {
			for _, bits := range edges() {
				want := uint64(0)
				if mayBe(at, bits) {
					want = valueOf(w, at, bits)
				}
				if got := field.Get(w, at, bits); got != want {
					t.Fatalf("Get(%x, %d, %d) = %x, want %x", w, at, bits, got, want)
				}
			}
		}
	}
}

func TestGetByHand(t *testing.T) {
	for _, x := range []struct {
		w        uint64
		at, bits int
		want     uint64
	}{
		{0xabcd, 0, 4, 0xd},
		{0xabcd, 4, 8, 0xbc},
		{1 << 63, 63, 1, 1},
		{ones, 63, 1, 1},
		{ones, 0, 64, ones},
		{ones, 1, 63, ones >> 1},
		{ones, 1, 64, 0},
		{ones, 63, 2, 0},
		{ones, 0, 0, 0},
		{ones, -1, 1, 0},
		{ones, 64, 1, 0},
	} {
		if got := field.Get(x.w, x.at, x.bits); got != x.want {
			t.Errorf("Get(%x, %d, %d) = %x, want %x", x.w, x.at, x.bits, got, x.want)
		}
	}
}

func TestPut(t *testing.T) {
	for _, w := range sampleWords() {
		for at := range 64 {
			for bits := 1; at+bits <= 64; bits++ {
				top := topOf(bits)
				for _, v := range []uint64{0, 1, top / 3, top - 1, top} {
					want := withValue(w, at, bits, v)
					if got, e := field.Put(w, at, bits, v); got != want || e != api.OK {
						t.Fatalf("Put(%x, %d, %d, %x) = %x, %d, want %x", w, at, bits, v, got, e, want)
					}
				}
			}
		}
	}
	if got, e := field.Put(0, 4, 4, 15); got != 240 || e != api.OK {
		t.Error("the document's example:", got, e)
	}
}

func TestPutWrongField(t *testing.T) {
	for _, at := range edges() {
		for _, bits := range edges() {
			if mayBe(at, bits) {
				continue
			}
			// All ones are above Most of most widths: the field is the first thing that is told.
			for _, v := range []uint64{0, ones} {
				if got, e := field.Put(ones, at, bits, v); got != 0 || e != api.ErrArg {
					t.Fatalf("Put(ones, %d, %d, %x) = %x, %d", at, bits, v, got, e)
				}
			}
		}
	}
}

func TestPutTooGreat(t *testing.T) {
	for at := range 64 {
		for bits := 1; at+bits <= 64 && bits < 64; bits++ {
			for _, v := range []uint64{topOf(bits) + 1, 1 << 63, ones} {
				if got, e := field.Put(ones, at, bits, v); got != 0 || e != api.ErrOver {
					t.Fatalf("Put(ones, %d, %d, %x) = %x, %d", at, bits, v, got, e)
				}
			}
		}
	}
}

func TestFlag(t *testing.T) {
	for _, w := range sampleWords() {
		l := bitsOf(w)
		for _, at := range edges() {
			want := at >= 0 && at <= 63 && l[at]
			if got := field.Flag(w, at); got != want {
				t.Errorf("Flag(%x, %d) = %v", w, at, got)
			}
		}
	}
}

func TestSet(t *testing.T) {
	for _, w := range sampleWords() {
		for _, at := range edges() {
			for _, on := range []bool{false, true} {
				want := w
				if at >= 0 && at <= 63 {
					l := bitsOf(w)
					l[at] = on
					want = wordOf(l)
				}
				if got := field.Set(w, at, on); got != want {
					t.Errorf("Set(%x, %d, %v) = %x, want %x", w, at, on, got, want)
				}
			}
		}
	}
}

// P1.2

// repeat is a list of n times the same width.
func repeat(width, n int) []int {
	return slices.Repeat([]int{width}, n)
}

// rightWidths are lists that may stand in a word.
func rightWidths() [][]int {
	return [][]int{nil, {}, {1}, {63}, {64}, {1, 63}, {63, 1}, {1, 62}, {4, 4, 56}, {48, 14, 1, 1}, {48, 14, 1}, {32, 32}, repeat(1, 64), repeat(1, 63), repeat(8, 8), repeat(9, 7)}
}

// wrongWidths are lists that may not.
func wrongWidths() [][]int {
	return [][]int{{0}, {-1}, {65}, {60, 5}, {64, 1}, {1, 64}, {32, 32, 1}, {4, 0, 4}, {8, -8}, {8, -8, 64}, {64, -1}, {64, 0}, {0, 64}, {-1, 65}, repeat(1, 65), repeat(9, 8),
		{math.MaxInt}, {math.MinInt}, {math.MaxInt, math.MaxInt, 2}, {1, math.MaxInt}, {math.MaxInt, 1}, {1, math.MinInt}, {1 << 32}, {1 << 31, 1 << 31}}
}

func TestSpread(t *testing.T) {
	for _, w := range sampleWords() {
		for _, widths := range rightWidths() {
			var want []uint64
			at := 0
			for _, bits := range widths {
				want = append(want, valueOf(w, at, bits))
				at += bits
			}
			if got, e := field.Spread(w, widths); !slices.Equal(got, want) || e != api.OK {
				t.Errorf("Spread(%x, %v) = %x, %d, want %x", w, widths, got, e, want)
			}
		}
	}
	if got, e := field.Spread(0x321, []int{4, 4}); !slices.Equal(got, []uint64{1, 2}) || e != api.OK {
		t.Error(got, e)
	}
}

func TestSpreadWrong(t *testing.T) {
	for _, widths := range wrongWidths() {
		if got, e := field.Spread(ones, widths); len(got) != 0 || e != api.ErrArg {
			t.Errorf("Spread(ones, %v) = %x, %d", widths, got, e)
		}
	}
}

func TestJoin(t *testing.T) {
	for _, w := range sampleWords() {
		for _, widths := range rightWidths() {
			var values []uint64
			want := uint64(0)
			at := 0
			for _, bits := range widths {
				v := valueOf(w, at, bits)
				values = append(values, v)
				want = withValue(want, at, bits, v)
				at += bits
			}
			if got, e := field.Join(values, widths); got != want || e != api.OK {
				t.Errorf("Join(%x, %v) = %x, %d, want %x", values, widths, got, e, want)
			}
		}
	}
	if got, e := field.Join([]uint64{1, 2, 3}, []int{4, 4, 4}); got != 0x321 || e != api.OK {
		t.Error(got, e)
	}
	if got, e := field.Join(nil, nil); got != 0 || e != api.OK {
		t.Error(got, e)
	}
}

func TestJoinWrongWidths(t *testing.T) {
	for _, widths := range wrongWidths() {
		// Values above every Most: the widths are the first thing that is told.
		for _, v := range []uint64{0, ones} {
			values := slices.Repeat([]uint64{v}, len(widths))
			if got, e := field.Join(values, widths); got != 0 || e != api.ErrArg {
				t.Errorf("Join(%x, %v) = %x, %d", values, widths, got, e)
			}
		}
	}
}

func TestJoinWrongCount(t *testing.T) {
	for _, x := range []struct {
		values []uint64
		widths []int
	}{
		{[]uint64{1}, nil},
		{nil, []int{1}},
		{[]uint64{1, 2, 3}, []int{4, 4}},
		{[]uint64{1, 2}, []int{4, 4, 56}},
		{[]uint64{16, 2}, []int{4}},
		{[]uint64{16}, []int{4, 4}},
		{[]uint64{0, 0}, []int{64}},
	} {
		if got, e := field.Join(x.values, x.widths); got != 0 || e != api.ErrArg {
			t.Errorf("Join(%v, %v) = %x, %d", x.values, x.widths, got, e)
		}
	}
}

func TestJoinTooGreat(t *testing.T) {
	for _, x := range []struct {
		values []uint64
		widths []int
	}{
		{[]uint64{16}, []int{4}},
		{[]uint64{2}, []int{1}},
		{[]uint64{1 << 63}, []int{63}},
		{[]uint64{15, 16, 0}, []int{4, 4, 4}},
		{[]uint64{16, 15, 0}, []int{4, 4, 56}},
		{[]uint64{0, 0, 1 << 56}, []int{4, 4, 56}},
		{[]uint64{ones, 0}, []int{32, 32}},
		{[]uint64{0, ones}, []int{32, 32}},
	} {
		if got, e := field.Join(x.values, x.widths); got != 0 || e != api.ErrOver {
			t.Errorf("Join(%x, %v) = %x, %d", x.values, x.widths, got, e)
		}
	}
}

// P1.3

// sampleTexts have all lengths from 0 to 33, with high bytes and noughts in them.
func sampleTexts() []string {
	var l []string
	for n := range 34 {
		b := make([]byte, n)
		for i := range b {
			b[i] = byte(i*37 + n*11 + 200)
		}
		l = append(l, string(b), strings.Repeat("\x00", n), strings.Repeat("\xff", n))
	}
	return append(l, "abc", "a\x00", "\x00a", "1234567\x00", "ü€", strings.Repeat("k", api.MaxKey), strings.Repeat("v", api.MaxValue))
}

// textWords lays bytes into words by place values.
func textWords(s string) []uint64 {
	var l []uint64
	unit := uint64(1)
	for i, c := range []byte(s) {
		if i%8 == 0 {
			l = append(l, 0)
			unit = 1
		}
		l[len(l)-1] += uint64(c) * unit
		unit *= 256
	}
	return l
}

func TestWords(t *testing.T) {
	for _, s := range sampleTexts() {
		if got := field.Words(s); !slices.Equal(got, textWords(s)) {
			t.Errorf("Words(%q) = %x, want %x", s, got, textWords(s))
		}
	}
	for s, want := range map[string][]uint64{
		"":          nil,
		"abc":       {6513249},
		"\x00":      {0},
		"\xff":      {255},
		"abcdefgh":  {0x6867666564636261},
		"abcdefghi": {0x6867666564636261, 0x69},
	} {
		if got := field.Words(s); !slices.Equal(got, want) {
			t.Errorf("Words(%q) = %x, want %x", s, got, want)
		}
	}
}

func TestBytes(t *testing.T) {
	for _, s := range sampleTexts() {
		if got, e := field.Bytes(textWords(s), len(s)); got != s || e != api.OK {
			t.Errorf("Bytes of %q = %q, %d", s, got, e)
		}
	}
	for _, l := range [][]uint64{nil, {}} {
		if got, e := field.Bytes(l, 0); got != "" || e != api.OK {
			t.Error(got, e)
		}
	}
	if got, e := field.Bytes([]uint64{'a'}, 3); got != "a\x00\x00" || e != api.OK {
		t.Errorf("%q %d", got, e)
	}
}

func TestBytesWrong(t *testing.T) {
	for _, x := range []struct {
		l    []uint64
		n    int
		want api.Errno
	}{
		{nil, -1, api.ErrArg},
		{[]uint64{1, 2}, -1, api.ErrArg},
		{[]uint64{1}, math.MinInt, api.ErrArg},
		{nil, 1, api.ErrShort},
		{[]uint64{0}, 9, api.ErrShort},
		{[]uint64{0, 0}, 17, api.ErrShort},
		{[]uint64{ones}, math.MaxInt, api.ErrShort},
		{nil, math.MaxInt - 6, api.ErrShort},
		{[]uint64{0}, 0, api.ErrForm},
		{[]uint64{0, 0}, 8, api.ErrForm},
		{[]uint64{0, 0, 0}, 1, api.ErrForm},
		{[]uint64{'a', 0}, 1, api.ErrForm},
		{[]uint64{0x6161}, 1, api.ErrForm},
		{[]uint64{1 << 63}, 7, api.ErrForm},
		{[]uint64{0, 1 << 63}, 9, api.ErrForm},
	} {
		if got, e := field.Bytes(x.l, x.n); got != "" || e != x.want {
			t.Errorf("Bytes(%x, %d) = %q, %d, want %d", x.l, x.n, got, e, x.want)
		}
	}
}

func TestBytesBehind(t *testing.T) {
	for n := 1; n <= 24; n++ {
		words := (n + 7) / 8
		for i := n; i < words*8; i++ {
			for bit := range 8 {
				l := make([]uint64, words)
				l[i/8] = 1 << (i%8*8 + bit)
				if got, e := field.Bytes(l, n); got != "" || e != api.ErrForm {
					t.Fatalf("Bytes(%x, %d) = %q, %d", l, n, got, e)
				}
			}
		}
	}
}

// P1.4

func TestPutIsGot(t *testing.T) {
	for _, w := range sampleWords() {
		for at := range 64 {
			for bits := 1; at+bits <= 64; bits++ {
				v := w % 1000003 & field.Most(bits)
				p, e := field.Put(w, at, bits, v)
				if e != api.OK || field.Get(p, at, bits) != v {
					t.Fatalf("Put(%x, %d, %d, %x) = %x, %d", w, at, bits, v, p, e)
				}
				for other := range 64 {
					inside := other >= at && other < at+bits
					if !inside && field.Flag(p, other) != field.Flag(w, other) {
						t.Fatalf("Put(%x, %d, %d, %x) touched the bit %d", w, at, bits, v, other)
					}
				}
			}
		}
	}
}

func TestJoinOfSpread(t *testing.T) {
	for _, w := range sampleWords() {
		for _, widths := range [][]int{{64}, {1, 63}, {63, 1}, {48, 14, 1, 1}, {4, 4, 56}, {32, 32}, repeat(1, 64), repeat(8, 8)} {
			values, e := field.Spread(w, widths)
			if e != api.OK {
				t.Fatal(widths, e)
			}
			if got, e := field.Join(values, widths); got != w || e != api.OK {
				t.Errorf("%x, spread and joined by %v: %x, %d", w, widths, got, e)
			}
		}
	}
}

func TestBytesOfWords(t *testing.T) {
	for _, s := range sampleTexts() {
		if got, e := field.Bytes(field.Words(s), len(s)); got != s || e != api.OK {
			t.Errorf("%q came back as %q, %d", s, got, e)
		}
	}
}

// The rules that hold everywhere.

func TestArgumentsStayAsTheyAre(t *testing.T) {
	widths := []int{4, 4, 56, 7, 7}
	values := []uint64{1, 2, 3, 9, 9}
	words := []uint64{0x6161616161616161, 0x61, 9, 9}
	field.Spread(ones, widths[:3])
	field.Join(values[:3], widths[:3])
	field.Bytes(words[:2], 9)
	if !slices.Equal(widths, []int{4, 4, 56, 7, 7}) {
		t.Error(widths)
	}
	if !slices.Equal(values, []uint64{1, 2, 3, 9, 9}) {
		t.Error(values)
	}
	if !slices.Equal(words, []uint64{0x6161616161616161, 0x61, 9, 9}) {
		t.Error(words)
	}
}

func TestAnswersAreNewMemory(t *testing.T) {
	first := field.Words("abcdefghi")
	first[0] = 0
	if again := field.Words("abcdefghi"); again[0] != 0x6867666564636261 {
		t.Errorf("%x", again)
	}
	spread, _ := field.Spread(0x321, []int{4, 4})
	spread[0] = 9
	if again, _ := field.Spread(0x321, []int{4, 4}); again[0] != 1 {
		t.Error(again)
	}
	words := []uint64{0x636261}
	text, _ := field.Bytes(words, 3)
	words[0] = 0
	if text != "abc" {
		t.Errorf("%q", text)
	}
}
