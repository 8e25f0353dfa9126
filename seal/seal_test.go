package seal_test

import (
	"encoding/binary"
	"hash/crc64"
	"math"
	"math/rand"
	"strings"
	"testing"
	"unsafe"

	"haycroft/api"
	"haycroft/seal"
)

const ones = uint64(math.MaxUint64)

// texts are of no byte, of one, of seven, eight, nine, of many; of all bytes.
func texts() []string {
	all := make([]byte, 256)
	for i := range all {
		all[i] = byte(i)
	}
	l := []string{
		"", "abc", "cba", "key", "123456789", "1234567", "12345678", "\x00\x00", "\x00\x00\x00\x00\x00\x00\x00", "\x00\x00\x00\x00\x00\x00\x00\x00",
		"a\x00", "\x00a", "é", "\xc3", "\xc3\xa9", "\xff\xfe", "\xed\xa0\x80", "ü€😀", "\x80\x81\xfe\xff",
		strings.Repeat("\xff", 7), strings.Repeat("\xff", 8), strings.Repeat("\xff", 9), strings.Repeat("\x00", 100),
		strings.Repeat("k", 63), strings.Repeat("k", 64), strings.Repeat("k", 65), strings.Repeat("long ", 1000), string(all),
	}
	for i := range all {
		l = append(l, string(all[i:i+1]))
	}
	r := rand.New(rand.NewSource(4))
	for n := range 40 {
		b := make([]byte, n)
		r.Read(b)
		l = append(l, string(b))
	}
	return l
}

// numbers are sums that are handed to Next.
func numbers() []uint64 {
	l := []uint64{0, 1, 2, 255, 256, 1 << 32, 1<<32 - 1, 1<<63 - 1, 1 << 63, ones - 1, ones, 11051210869376104954, 14514072000185962306, 0xaaaaaaaaaaaaaaaa, 0x0123456789abcdef}
	for at := range 64 {
		l = append(l, 1<<at, ones^1<<at)
	}
	return l
}

// bits are a number's, the lowest first.
func bits(w uint64) [64]bool {
	var l [64]bool
	for at := range l {
		l[at] = w&(1<<at) != 0
	}
	return l
}

// goOn reckons the sum of a text behind another one bit by bit, as the words of the document go.
func goOn(sum uint64, s string) uint64 {
	h, turn := bits(sum), bits(14514072000185962306)
	for at := range h {
		h[at] = !h[at]
	}
	for _, b := range []byte(s) {
		for at := range 8 {
			h[at] = h[at] != (b&(1<<at) != 0)
		}
		for range 8 {
			out := h[0]
			copy(h[:63], h[1:])
			h[63] = false
			for at := range h {
				h[at] = h[at] != (out && turn[at])
			}
		}
	}
	var w uint64
	for at := range h {
		if !h[at] {
			w |= 1 << at
		}
	}
	return w
}

// sumOf is the sum of a text, from the document's number of 64 ones on.
func sumOf(s string) uint64 {
	return goOn(0, s)
}

// sealed is a text with a sum behind it.
func sealed(s string, sum uint64) string {
	return string(binary.LittleEndian.AppendUint64([]byte(s), sum))
}

// turned is a text with the bits at these places of its row turned.
func turned(s string, places ...int) string {
	b := []byte(s)
	for _, at := range places {
		b[at/8] ^= 1 << (at % 8)
	}
	return string(b)
}

// refuses tells if a text can't be opened for its form.
func refuses(s string) bool {
	u, e := seal.Open(s)
	return u == "" && e == api.ErrForm
}

// P4.1

func TestBytes(t *testing.T) {
	if seal.Bytes != 8 {
		t.Error(seal.Bytes)
	}
}

func TestSumWrittenOut(t *testing.T) {
	for s, want := range map[string]uint64{
		"":                        0,
		"123456789":               11051210869376104954,
		"a":                       0x330284772e652b05,
		"abc":                     0x2cd8094a1a277627,
		"\x00":                    0x1fada17364673f59,
		"\xff":                    0xff00000000000000,
		strings.Repeat("\xff", 8): ones,
		"\xff\xff":                0xffff000000000000,
		"ü€😀":                     0x57b5a202d5f09a88,
		"the quick brown fox jumps over the lazy dog": 0x1f2616aa2c2bb398,
	} {
		if got := seal.Sum(s); got != want {
			t.Errorf("Sum(%q): %x, not %x", s, got, want)
		}
	}
}

func TestSumReckoned(t *testing.T) {
	table := crc64.MakeTable(crc64.ECMA)
	for _, s := range texts() {
		got := seal.Sum(s)
		if want := sumOf(s); got != want {
			t.Errorf("Sum(%q): %x, not %x", s, got, want)
		}
		if want := crc64.Checksum([]byte(s), table); got != want {
			t.Errorf("Sum(%q): %x, the library's is %x", s, got, want)
		}
	}
}

func TestSumOfEachByteAnywhere(t *testing.T) {
	for _, at := range []int{0, 1, 7, 8, 15} {
		for b := range 256 {
			bytes := []byte(strings.Repeat("x", 16))
			bytes[at] = byte(b)
			s := string(bytes)
			if got, want := seal.Sum(s), sumOf(s); got != want {
				t.Errorf("Sum(%q): %x, not %x", s, got, want)
			}
		}
	}
}

func TestSumOfTheGreatestBlock(t *testing.T) {
	b := make([]byte, api.MaxBlock)
	rand.New(rand.NewSource(5)).Read(b)
	if got, want := seal.Sum(string(b)), crc64.Checksum(b, crc64.MakeTable(crc64.ECMA)); got != want {
		t.Errorf("%x, not %x", got, want)
	}
}

func TestSumAgain(t *testing.T) {
	first := seal.Sum("key")
	for _, s := range texts() {
		seal.Sum(s)
	}
	if seal.Sum("key") != first {
		t.Error("another sum the second time")
	}
}

func TestNextOfEachCut(t *testing.T) {
	for _, s := range texts() {
		want := seal.Sum(s)
		for n := range min(len(s), 70) + 1 {
			if got := seal.Next(seal.Sum(s[:n]), s[n:]); got != want {
				t.Errorf("%q and %q: %x, not %x", s[:n], s[n:], got, want)
			}
		}
	}
}

func TestNextByteByByte(t *testing.T) {
	for _, s := range texts() {
		var sum uint64
		for i := range len(s) {
			sum = seal.Next(sum, s[i:i+1])
		}
		if want := seal.Sum(s); sum != want {
			t.Errorf("%q: %x, not %x", s, sum, want)
		}
	}
}

func TestNextOfTheEmptyText(t *testing.T) {
	for _, sum := range numbers() {
		if got := seal.Next(sum, ""); got != sum {
			t.Errorf("Next(%x, \"\"): %x", sum, got)
		}
	}
}

func TestNextReckoned(t *testing.T) {
	l := texts()[:60]
	for _, sum := range numbers() {
		for _, s := range l {
			if len(s) > 300 {
				continue
			}
			if got, want := seal.Next(sum, s), goOn(sum, s); got != want {
				t.Errorf("Next(%x, %q): %x, not %x", sum, s, got, want)
			}
		}
	}
}

func TestNextOfTheLeastAndTheGreatestSum(t *testing.T) {
	for _, s := range texts() {
		if got, want := seal.Next(0, s), seal.Sum(s); got != want {
			t.Errorf("Next(0, %q): %x, not %x", s, got, want)
		}
		if got, want := seal.Next(ones, s), seal.Sum(strings.Repeat("\xff", 8)+s); got != want {
			t.Errorf("Next(2^64 - 1, %q): %x, not %x", s, got, want)
		}
	}
	if got := seal.Next(ones, "\x00\x00\x00"); got != ones {
		t.Errorf("noughts behind 2^64 - 1: %x", got)
	}
}

func TestSealWrittenOut(t *testing.T) {
	for s, want := range map[string]string{
		"":                        "\x00\x00\x00\x00\x00\x00\x00\x00",
		"123456789":               "123456789\xfa\x39\x19\xdf\xbb\xc9\x5d\x99",
		"\xff":                    "\xff\x00\x00\x00\x00\x00\x00\x00\xff",
		strings.Repeat("\xff", 8): strings.Repeat("\xff", 16),
	} {
		if got := seal.Seal(s); got != want {
			t.Errorf("Seal(%q): %q, not %q", s, got, want)
		}
		if u, e := seal.Open(want); u != s || e != api.OK {
			t.Errorf("Open(%q): %q, %d", want, u, e)
		}
	}
}

func TestSealIsTheTextAndItsSum(t *testing.T) {
	for _, s := range texts() {
		if got, want := seal.Seal(s), sealed(s, sumOf(s)); got != want {
			t.Errorf("Seal(%q): %q, not %q", s, got, want)
		}
	}
}

func TestSealTwice(t *testing.T) {
	for _, s := range texts() {
		once := seal.Seal(s)
		u, e := seal.Open(seal.Seal(once))
		if u != once || e != api.OK {
			t.Errorf("%q sealed twice: %q, %d", s, u, e)
		}
		if u, e = seal.Open(u); u != s || e != api.OK {
			t.Errorf("%q opened twice: %q, %d", s, u, e)
		}
	}
}

func TestOpenOfTooFewBytes(t *testing.T) {
	for n := range 8 {
		for _, b := range []string{"\x00", "\xff", "1", "\x80"} {
			s := strings.Repeat(b, n)
			if u, e := seal.Open(s); u != "" || e != api.ErrShort {
				t.Errorf("Open(%q): %q, %d", s, u, e)
			}
		}
		if u, e := seal.Open(seal.Seal("")[n+1:]); u != "" || e != api.ErrShort {
			t.Errorf("%d bytes of an empty text's: %q, %d", 7-n, u, e)
		}
	}
}

func TestOpenOfEightBytes(t *testing.T) {
	if u, e := seal.Open(strings.Repeat("\x00", 8)); u != "" || e != api.OK {
		t.Errorf("eight noughts: %q, %d", u, e)
	}
	for _, s := range []string{"12345678", strings.Repeat("\xff", 8), "\x01\x00\x00\x00\x00\x00\x00\x00", "\x00\x00\x00\x00\x00\x00\x00\x80"} {
		if !refuses(s) {
			t.Errorf("%q was opened", s)
		}
	}
}

func TestOpenOfAnotherTextsSum(t *testing.T) {
	l := texts()
	for i, s := range l {
		for _, other := range l[max(0, i-40):i] {
			if s == other {
				continue
			}
			if wrong := sealed(s, sumOf(other)); !refuses(wrong) {
				t.Errorf("%q with the sum of %q was opened", s, other)
			}
		}
	}
}

func TestOpenOfWrongSums(t *testing.T) {
	for _, s := range texts() {
		sum := sumOf(s)
		for _, wrong := range []uint64{^sum, sum + 1, sum - 1, sum ^ 1<<63, sum<<8 | sum>>56, goOn(ones, s), sumOf(s + "\x00"), sumOf("\x00" + s)} {
			if wrong != sum && !refuses(sealed(s, wrong)) {
				t.Errorf("%q with %x was opened, its sum is %x", s, wrong, sum)
			}
		}
	}
}

func TestOpenOfSumsTheOtherWayRound(t *testing.T) {
	met := 0
	for _, s := range texts() {
		sum := sumOf(s)
		back := string(binary.BigEndian.AppendUint64([]byte(s), sum))
		if back == sealed(s, sum) {
			continue
		}
		met++
		if !refuses(back) {
			t.Errorf("%q with its sum's bytes the other way round was opened", s)
		}
	}
	if met < 250 {
		t.Errorf("only %d texts were asked", met)
	}
}

func TestOpenOfTheSumAheadOfTheText(t *testing.T) {
	for _, s := range []string{"abc", "123456789", "\x80"} {
		if wrong := sealed("", sumOf(s)) + s; !refuses(wrong) {
			t.Errorf("%q was opened", wrong)
		}
	}
}

func TestOpenOfPiecesAndMore(t *testing.T) {
	s := seal.Seal("a text")
	for n := 8; n < len(s); n++ {
		if !refuses(s[:n]) {
			t.Errorf("the first %d bytes were opened", n)
		}
		if !refuses(s[len(s)-n:]) {
			t.Errorf("the last %d bytes were opened", n)
		}
	}
	if !refuses(s+"\x00") || !refuses(s+"x") || !refuses("\x00"+s) || !refuses("x"+s) {
		t.Error("it was opened with a byte more")
	}
}

func TestOpenAnswersNewMemory(t *testing.T) {
	s := seal.Seal("abc")
	u, _ := seal.Open(s)
	if unsafe.StringData(u) == unsafe.StringData(s) {
		t.Error("the text that was opened is a piece of the sealed one")
	}
}

// P4.2

func TestOpenOfSealIsTheText(t *testing.T) {
	for _, s := range texts() {
		if u, e := seal.Open(seal.Seal(s)); u != s || e != api.OK {
			t.Errorf("%q: %q, %d", s, u, e)
		}
	}
}

// rows are texts whose bits are turned: their sealed forms have from 64 to some 400 bits.
func rows() []string {
	return []string{"", "a", "\x00", "\xff", "abc", "\x80\xff\x7f", "1234567", "12345678", "123456789", strings.Repeat("\x00", 16), strings.Repeat("\xfe", 40)}
}

func TestOneTurnedBit(t *testing.T) {
	for _, s := range append(rows(), strings.Repeat("long ", 60)) {
		whole := seal.Seal(s)
		for at := range 8 * len(whole) {
			if !refuses(turned(whole, at)) {
				t.Errorf("%q with the bit %d turned was opened", s, at)
			}
		}
	}
}

func TestTwoTurnedBits(t *testing.T) {
	for _, s := range rows() {
		whole := seal.Seal(s)
		for at := range 8 * len(whole) {
			for other := at + 1; other < min(at+64, 8*len(whole)); other++ {
				if !refuses(turned(whole, at, other)) {
					t.Errorf("%q with the bits %d and %d turned was opened", s, at, other)
				}
			}
		}
	}
}

func TestManyTurnedBitsInARow(t *testing.T) {
	r := rand.New(rand.NewSource(6))
	special := uint64(14514072000185962306)
	for _, s := range rows() {
		whole := seal.Seal(s)
		for from := 0; from+64 <= 8*len(whole); from++ {
			for turn, pattern := range []uint64{ones, ones - 1, ones >> 1, 1 | 1<<63, special, special<<1 | 1, r.Uint64() | 1, r.Uint64() | 1<<63, r.Uint64() | 1} {
				var places []int
				for at, on := range bits(pattern) {
					if on {
						places = append(places, from+at)
					}
				}
				if !refuses(turned(whole, places...)) {
					t.Errorf("%q with the bits of pattern %d from %d on turned was opened", s, turn, from)
				}
			}
		}
	}
}

func TestTurnedBitsOfTheTextOfTheSumAndOfBoth(t *testing.T) {
	r := rand.New(rand.NewSource(7))
	for _, s := range []string{"12345678", "eight by" + "tes and more", strings.Repeat("\xff", 8)} {
		whole := seal.Seal(s)
		seam := 8 * len(s)
		for name, from := range map[string]int{"the text": seam - 64, "the sum": seam, "both": seam - 32, "both, one bit of the text": seam - 1, "both, one bit of the sum": seam - 63} {
			for range 300 {
				pattern := r.Uint64() | 1 | 1<<63
				var places []int
				for at, on := range bits(pattern) {
					if on {
						places = append(places, from+at)
					}
				}
				if !refuses(turned(whole, places...)) {
					t.Errorf("%q with bits of %s turned was opened", s, name)
				}
			}
		}
	}
}

// Bits that stand within 65 in a row may be turned unseen: this is the one way, and it tells the row's order and the sum's number.
func TestSixtyFiveTurnedBits(t *testing.T) {
	for _, s := range []string{"a", "123456789", strings.Repeat("\x80", 20)} {
		whole := seal.Seal(s)
		for from := 0; from+65 <= 8*len(whole); from++ {
			places := []int{from}
			for at, on := range bits(14514072000185962306) {
				if on {
					places = append(places, from+1+at)
				}
			}
			other := turned(whole, places...)
			if u, e := seal.Open(other); u != other[:len(s)] || e != api.OK {
				t.Errorf("%q with 65 bits from %d on: %q, %d", s, from, u, e)
			}
		}
	}
}
