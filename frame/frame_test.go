package frame_test

import (
	"hash/crc64"
	"math"
	"math/rand"
	"slices"
	"strings"
	"testing"

	"haycroft/api"
	"haycroft/frame"
)

// The bounds of the chapter as numbers, written out, so that nothing here leans on the program's own ones.
const (
	ones   = uint64(math.MaxUint64)
	bit63  = uint64(9223372036854775808)
	pages  = 64
	most   = 512
	manyOf = 3000
)

// bytesOf lays a number by place values, the lowest byte first.
func bytesOf(n uint64) string {
	var b []byte
	for range 8 {
		b = append(b, byte(n%256))
		n /= 256
	}
	return string(b)
}

// sealed puts the sum behind a text that the library reckons: it knows these sums by another name.
func sealed(s string) string {
	return s + bytesOf(crc64.Checksum([]byte(s), crc64.MakeTable(crc64.ECMA)))
}

// texted lays two numbers and words behind them, as they stand ahead of the sum.
func texted(number, count uint64, l []uint64) string {
	var b strings.Builder
	b.WriteString(bytesOf(number))
	b.WriteString(bytesOf(count))
	for _, w := range l {
		b.WriteString(bytesOf(w))
	}
	return b.String()
}

// framed is the frame of a page.
func framed(page int, l []uint64) string {
	return sealed(texted(uint64(page), uint64(len(l)), l))
}

// numberOf takes a number from its 8 bytes.
func numberOf(s string) uint64 {
	var n uint64
	for i := 7; i >= 0; i-- {
		n = n*256 + uint64(s[i])
	}
	return n
}

// unpackTold says what Unpack has to tell: some page's frame is what that page makes again.
func unpackTold(s string) (int, []uint64, bool) {
	if len(s) < 32 || len(s) > 24+8*most || len(s)%8 != 0 {
		return 0, nil, false
	}
	var l []uint64
	for at := 16; at < len(s)-8; at += 8 {
		l = append(l, numberOf(s[at:at+8]))
	}
	for page := range pages {
		if framed(page, l) == s {
			return page, l, true
		}
	}
	return 0, nil, false
}

// counted are n words, each byte of them other than its neighbours.
func counted(n int) []uint64 {
	l := make([]uint64, n)
	for i := range l {
		l[i] = 0x0102030405060708*uint64(i%31+1) + uint64(n)<<32 + uint64(i)
	}
	return l
}

// edgeWords are words at the edges.
func edgeWords() []uint64 {
	return []uint64{0, 1, 2, 63, 64, 255, 256, 512, 1 << 32, bit63 - 1, bit63, bit63 + 1, ones - 1, ones, 0x0123456789abcdef}
}

// lists are words of pages: of all edges, in all numbers that matter.
func lists() [][]uint64 {
	l := [][]uint64{edgeWords()}
	for _, w := range edgeWords() {
		l = append(l, []uint64{w}, []uint64{w, 0}, []uint64{0, w}, []uint64{w, w, ones})
	}
	for _, n := range []int{1, 2, 3, 7, 8, 9, 31, 32, 64, 255, 256, 257, 510, 511, 512} {
		l = append(l, counted(n), make([]uint64, n), slices.Repeat([]uint64{ones}, n))
	}
	return l
}

// edgePages are numbers of pages that may be.
func edgePages() []int {
	return []int{0, 1, 2, 31, 32, 62, 63}
}

// farPages are numbers that may not be; some of them would, if they went round in the bits that they might have.
func farPages() []int {
	return []int{-1, 64, 65, -2, -63, -64, -65, -256, -256 + 63, 127, 128, 255, 256, 257, 65535, 65536, 65536 + 63, 1<<31 - 1, -1 << 31,
		1 << 32, 1<<32 + 63, 1 << 61, math.MaxInt - 1, math.MaxInt, math.MinInt, math.MinInt + 1, math.MinInt + 63}
}

// packs is a Pack that must do.
func packs(t *testing.T, page int, l []uint64, want string) {
	t.Helper()
	if s, e := frame.Pack(page, l); s != want || e != api.OK {
		t.Fatalf("Pack(%d, %x) is %x, error %d, not %x", page, l, s, e, want)
	}
}

// packsNot is a Pack that must not do.
func packsNot(t *testing.T, page int, l []uint64) {
	t.Helper()
	if s, e := frame.Pack(page, l); s != "" || e != api.ErrArg {
		t.Fatalf("Pack(%d, %d words) is %x, error %d", page, len(l), s, e)
	}
}

// unpacks is an Unpack that must do.
func unpacks(t *testing.T, s string, page int, want []uint64) {
	t.Helper()
	if p, l, e := frame.Unpack(s); p != page || !slices.Equal(l, want) || e != api.OK {
		t.Fatalf("Unpack(%x) is %d, %x, error %d, not %d, %x", s, p, l, e, page, want)
	}
}

// word is a Word that must tell this.
func word(t *testing.T, s string, at int, want uint64, wantError api.Errno) {
	t.Helper()
	if w, e := frame.Word(s, at); w != want || e != wantError {
		t.Fatalf("Word(%x, %d) is %x, error %d, not %x, error %d", s, at, w, e, want, wantError)
	}
}

// noFrame are an Unpack and a Word that must not do, at places that a page might have and at others.
func noFrame(t *testing.T, s string) {
	t.Helper()
	if p, l, e := frame.Unpack(s); p != 0 || len(l) != 0 || e != api.ErrForm {
		t.Fatalf("Unpack(%x) is %d, %x, error %d", s, p, l, e)
	}
	for _, at := range []int{0, -1, 1, 511, 512, math.MinInt, math.MaxInt} {
		word(t, s, at, 0, api.ErrForm)
	}
}

// agrees holds Unpack and Word against what they have to tell.
func agrees(t *testing.T, s string) bool {
	t.Helper()
	page, l, right := unpackTold(s)
	if !right {
		noFrame(t, s)
		return false
	}
	unpacks(t, s, page, l)
	for at, w := range l {
		word(t, s, at, w, api.OK)
	}
	return true
}

// P10.1: Pack

func TestMaxWords(t *testing.T) {
	if frame.MaxWords != 512 {
		t.Error(frame.MaxWords)
	}
}

func TestPackByHand(t *testing.T) {
	for _, x := range []struct {
		page int
		l    []uint64
		want string
	}{
		{0, []uint64{0}, "\x00\x00\x00\x00\x00\x00\x00\x00" + "\x01\x00\x00\x00\x00\x00\x00\x00" + "\x00\x00\x00\x00\x00\x00\x00\x00"},
		{63, []uint64{1}, "\x3f\x00\x00\x00\x00\x00\x00\x00" + "\x01\x00\x00\x00\x00\x00\x00\x00" + "\x01\x00\x00\x00\x00\x00\x00\x00"},
		{2, []uint64{5, 1 << 63}, "\x02\x00\x00\x00\x00\x00\x00\x00" + "\x02\x00\x00\x00\x00\x00\x00\x00" +
			"\x05\x00\x00\x00\x00\x00\x00\x00" + "\x00\x00\x00\x00\x00\x00\x00\x80"},
		{7, []uint64{0x0102030405060708, ones, 0x1112131415161718}, "\x07\x00\x00\x00\x00\x00\x00\x00" + "\x03\x00\x00\x00\x00\x00\x00\x00" +
			"\x08\x07\x06\x05\x04\x03\x02\x01" + "\xff\xff\xff\xff\xff\xff\xff\xff" + "\x18\x17\x16\x15\x14\x13\x12\x11"},
	} {
		packs(t, x.page, x.l, sealed(x.want))
		unpacks(t, sealed(x.want), x.page, x.l)
	}
}

func TestPackOfManyWordsByHand(t *testing.T) {
	// 511 is 255 and 256, 512 is twice 256.
	for n, count := range map[int]string{511: "\xff\x01", 512: "\x00\x02"} {
		s, e := frame.Pack(9, counted(n))
		if want := "\x09" + strings.Repeat("\x00", 7) + count + strings.Repeat("\x00", 6); e != api.OK || !strings.HasPrefix(s, want) {
			t.Errorf("%d words: %x, error %d", n, s, e)
		}
	}
}

// The sums are written out, so that they lean on no other code.
func TestFramesWithTheirSumsByHand(t *testing.T) {
	for _, x := range []struct {
		page int
		l    []uint64
		sum  uint64
	}{
		{0, []uint64{0}, 6254187596120934792},
		{2, []uint64{5, bit63}, 17542477313196522010},
		{63, []uint64{ones}, 14961891690240938662},
	} {
		s, e := frame.Pack(x.page, x.l)
		if e != api.OK || !strings.HasSuffix(s, bytesOf(x.sum)) {
			t.Errorf("page %d, %x: %x, error %d, and its sum is %x", x.page, x.l, s, e, bytesOf(x.sum))
		}
	}
}

func TestEachByteStandsAtItsPlace(t *testing.T) {
	for _, page := range edgePages() {
		for _, n := range []int{1, 2, 3, 511, 512} {
			l := counted(n)
			s, e := frame.Pack(page, l)
			if len(s) != 24+8*n || e != api.OK {
				t.Fatalf("page %d, %d words: %d bytes, error %d", page, n, len(s), e)
			}
			for i := range 16 + 8*n {
				w := uint64(page)
				switch {
				case i >= 16:
					w = l[i/8-2]
				case i >= 8:
					w = uint64(n)
				}
				if want := byte(w >> (i % 8 * 8)); s[i] != want {
					t.Fatalf("page %d, %d words: byte %d is %x, not %x", page, n, i, s[i], want)
				}
			}
		}
	}
}

func TestPackOfAllPages(t *testing.T) {
	for page := range pages {
		for _, l := range lists() {
			packs(t, page, l, framed(page, l))
		}
	}
}

func TestPackOfAllNumbersOfWords(t *testing.T) {
	for n := 1; n <= most; n++ {
		packs(t, n%pages, counted(n), framed(n%pages, counted(n)))
	}
}

func TestPackOfPagesThatMayNotBe(t *testing.T) {
	for _, page := range farPages() {
		for _, n := range []int{1, 2, 511, 512} {
			packsNot(t, page, counted(n))
		}
	}
	for page := -300; page < 300; page++ {
		if page < 0 || page >= pages {
			packsNot(t, page, []uint64{1})
		}
	}
	for at := 6; at < 64; at++ {
		packsNot(t, 1<<at, []uint64{1})
		packsNot(t, -1<<at, []uint64{1})
	}
}

func TestPackOfNumbersOfWordsThatMayNotBe(t *testing.T) {
	for _, page := range append(edgePages(), farPages()...) {
		packsNot(t, page, nil)
		packsNot(t, page, []uint64{})
		packsNot(t, page, make([]uint64, 0, 5))
		for _, n := range []int{513, 514, 768, 1024, 1025, 65536, 65537} {
			packsNot(t, page, make([]uint64, n))
		}
	}
}

// P10.1: Bytes

func TestBytesByHand(t *testing.T) {
	for _, x := range []struct{ words, want int }{
		{1, 32}, // the example of the chapter
		{2, 40}, {3, 48}, {511, 4112}, {512, 4120},
		{0, 0}, {-1, 0}, {-2, 0}, {-3, 0}, {-512, 0}, {513, 0}, {514, 0}, {1024, 0}, {65537, 0},
		{1 << 32, 0}, {1<<32 + 1, 0}, {1 << 60, 0}, {1 << 61, 0}, {1<<61 + 1, 0}, {1<<62 + 1, 0}, {-1<<61 + 1, 0},
		{math.MaxInt, 0}, {math.MaxInt - 1, 0}, {math.MinInt, 0}, {math.MinInt + 1, 0},
	} {
		if g := frame.Bytes(x.words); g != x.want {
			t.Errorf("Bytes(%d) is %d, not %d", x.words, g, x.want)
		}
	}
}

func TestBytesOfAllNumbersOfWords(t *testing.T) {
	for n := -600; n < 1200; n++ {
		want := 0
		if n >= 1 && n <= most {
			want = len(framed(0, make([]uint64, n)))
		}
		if g := frame.Bytes(n); g != want {
			t.Errorf("Bytes(%d) is %d, not %d", n, g, want)
		}
	}
}

func TestAFrameHasAsManyBytesAsBytesTells(t *testing.T) {
	for n := range most + 3 {
		s, _ := frame.Pack(5, make([]uint64, n))
		if g := frame.Bytes(n); g != len(s) {
			t.Errorf("Bytes(%d) is %d, and the frame has %d", n, g, len(s))
		}
	}
}

// P10.1: Unpack

func TestUnpackOfAllPages(t *testing.T) {
	for page := range pages {
		for _, l := range lists() {
			unpacks(t, framed(page, l), page, l)
		}
	}
}

func TestUnpackOfAllNumbersOfWords(t *testing.T) {
	for n := 1; n <= most; n++ {
		unpacks(t, framed(n%pages, counted(n)), n%pages, counted(n))
	}
}

func TestUnpackOfTextsThatArentSealed(t *testing.T) {
	for _, n := range []int{0, 1, 7, 8, 9, 15, 16, 23, 24, 25, 31, 32, 33, 40, 4112, 4119, 4120, 4121, 4128, 70000} {
		for _, c := range []string{"\x00", "\x01", "\xff", "k", " "} {
			// Eight noughts are a sealed text, the empty one: no frame either.
			noFrame(t, strings.Repeat(c, n))
		}
	}
	for _, l := range lists() {
		text := texted(3, uint64(len(l)), l)
		noFrame(t, text)
		noFrame(t, text+bytesOf(0))
		noFrame(t, text+bytesOf(ones))
		noFrame(t, text+bytesOf(^numberOf(sealed(text)[len(text):])))
	}
}

func TestUnpackOfSealedTextsThatAreTooShort(t *testing.T) {
	whole := texted(1, 0, nil)
	for n := range 17 {
		noFrame(t, sealed(whole[:n]))
		noFrame(t, sealed(texted(0, 1, nil)[:n]))
		noFrame(t, sealed(texted(ones, ones, nil)[:n]))
	}
	for n := range 24 {
		noFrame(t, sealed(texted(2, 1, []uint64{5})[:n]))
	}
}

func TestUnpackOfNumbersThatMayNotBe(t *testing.T) {
	for _, l := range [][]uint64{{5}, {5, bit63}, counted(511), counted(512)} {
		count := uint64(len(l))
		for _, number := range []uint64{64, 65, 127, 128, 255, 256, 65536, 1 << 31, 1 << 32, 1<<32 + 5, 1 << 61, bit63 - 1, bit63, bit63 + 5, ones - 63, ones - 1, ones} {
			noFrame(t, sealed(texted(number, count, l)))
		}
		for at := 6; at < 64; at++ {
			noFrame(t, sealed(texted(1<<at, count, l)))
			noFrame(t, sealed(texted(1<<at+63, count, l)))
		}
	}
	for number := range uint64(300) {
		s := sealed(texted(number, 1, []uint64{number}))
		if agrees(t, s) != (number < pages) {
			t.Errorf("a page of the number %d", number)
		}
	}
}

func TestUnpackOfCountsThatMayNotBe(t *testing.T) {
	counts := []uint64{0, 513, 514, 1024, 65536, 1 << 32, 1<<32 + 1, 1<<32 + 2, 1 << 60, 1 << 61, 1<<61 + 1, 1<<61 + 2, 1 << 62, bit63 - 1, bit63, bit63 + 1, bit63 + 2, ones - 2, ones - 1, ones}
	for _, count := range counts {
		for _, n := range []int{0, 1, 2, 3, 511, 512, 513} {
			noFrame(t, sealed(texted(0, count, make([]uint64, n))))
			noFrame(t, sealed(texted(63, count, counted(n))))
		}
	}
}

func TestUnpackOfMoreWordsThanAPageMayHave(t *testing.T) {
	// The count is the right one, but there may not be so many, or none.
	for _, n := range []int{0, 513, 514, 515, 600, 1024, 1025, 5000} {
		noFrame(t, framed(5, make([]uint64, n)))
		noFrame(t, framed(5, counted(n)))
	}
}

func TestUnpackOfOtherCounts(t *testing.T) {
	for n := range 20 {
		for count := range uint64(20) {
			if count != uint64(n) {
				noFrame(t, sealed(texted(4, count, counted(n))))
			}
		}
	}
	for _, n := range []int{255, 256, 257, 510, 511, 512} {
		for _, count := range []int{1, 2, n - 2, n - 1, n + 1, n + 2, n + 256, n + 65536, 512} {
			if count != n {
				noFrame(t, sealed(texted(4, uint64(count), counted(n))))
			}
		}
	}
}

func TestUnpackOfWordsThatArentWhole(t *testing.T) {
	for _, n := range []int{0, 1, 2, 3, 510, 511, 512} {
		for more := 1; more < 8; more++ {
			for _, c := range []string{"\x00", "\xff"} {
				behind := strings.Repeat(c, more)
				// Neither counted as a word, nor left out, are they one.
				noFrame(t, sealed(texted(4, uint64(n), counted(n))+behind))
				noFrame(t, sealed(texted(4, uint64(n+1), counted(n))+behind))
			}
		}
	}
}

func TestUnpackOfAllSealedLengths(t *testing.T) {
	right := 0
	for _, n := range []int{1, 2, 3} {
		text := texted(3, uint64(n), counted(4))
		for length := range len(text) + 1 {
			if agrees(t, sealed(text[:length])) {
				right++
			}
		}
	}
	if right != 3 {
		t.Error("so many were frames", right)
	}
}

// anyText is one of any sort, near a frame in some places.
func anyText(r *rand.Rand) string {
	l := make([]uint64, r.Intn(6))
	for i := range l {
		l[i] = r.Uint64() >> r.Intn(64)
	}
	number, count := uint64(r.Intn(70)), uint64(len(l))
	if r.Intn(6) == 0 {
		number = r.Uint64() >> r.Intn(64)
	}
	if r.Intn(4) == 0 {
		count += uint64(r.Intn(3)) - 1
	}
	text := texted(number, count, l)
	if r.Intn(4) == 0 {
		text = text[:r.Intn(len(text)+1)]
	}
	s := sealed(text)
	if r.Intn(6) == 0 {
		at := r.Intn(len(s))
		s = s[:at] + string([]byte{byte(r.Intn(256))}) + s[at+1:]
	}
	return s
}

func TestUnpackOfAnyTexts(t *testing.T) {
	right, wrong := 0, 0
	r := rand.New(rand.NewSource(10))
	for range manyOf {
		if agrees(t, anyText(r)) {
			right++
		} else {
			wrong++
		}
	}
	if right < 100 || wrong < 100 {
		t.Error(right, wrong)
	}
}

// P10.1: Word

func TestWordByHand(t *testing.T) {
	s := framed(2, []uint64{5, bit63, 0, ones})
	for _, x := range []struct {
		at   int
		want uint64
		e    api.Errno
	}{
		{0, 5, api.OK}, {1, bit63, api.OK}, {2, 0, api.OK}, {3, ones, api.OK},
		{-1, 0, api.ErrArg}, {-2, 0, api.ErrArg}, {4, 0, api.ErrArg}, {5, 0, api.ErrArg}, {512, 0, api.ErrArg},
		{1 << 32, 0, api.ErrArg}, {1 << 61, 0, api.ErrArg}, {math.MaxInt, 0, api.ErrArg}, {math.MinInt, 0, api.ErrArg},
	} {
		word(t, s, x.at, x.want, x.e)
	}
}

func TestWordAtAllPlaces(t *testing.T) {
	for _, n := range []int{1, 2, 3, 511, 512} {
		l := counted(n)
		s := framed(63, l)
		for at, w := range l {
			word(t, s, at, w, api.OK)
		}
		for _, at := range []int{-1, -2, -n, -n - 1, -8, n, n + 1, n + 2, 513, 1 << 32, 1<<32 + 1, -1 << 32, math.MinInt, math.MinInt + 1, math.MaxInt - 1, math.MaxInt} {
			word(t, s, at, 0, api.ErrArg)
		}
	}
}

func TestWordOfNoFrameTellsThatFirst(t *testing.T) {
	s := framed(2, []uint64{5, 6, 7})
	for _, wrong := range []string{"", s[:len(s)-1], s[:16], s + "x", s + s, s[1:], sealed(""), sealed("12345678"), sealed(s),
		sealed(texted(64, 3, []uint64{5, 6, 7})), sealed(texted(2, 0, nil)), sealed(texted(2, 2, []uint64{5, 6, 7})), sealed(texted(2, 4, []uint64{5, 6, 7}))} {
		for _, at := range []int{0, 1, 2, -1, 3, 4, 512, math.MaxInt, math.MinInt} {
			word(t, wrong, at, 0, api.ErrForm)
		}
	}
}

// P10.2

func TestWhatIsPackedIsUnpacked(t *testing.T) {
	for page := range pages {
		for _, l := range lists() {
			s, e := frame.Pack(page, l)
			if e != api.OK {
				t.Fatalf("Pack(%d, %x): error %d", page, l, e)
			}
			unpacks(t, s, page, l)
		}
	}
	r := rand.New(rand.NewSource(102))
	for range manyOf / 10 {
		l := make([]uint64, 1+r.Intn(most))
		for i := range l {
			l[i] = r.Uint64() >> r.Intn(64)
		}
		page := r.Intn(pages)
		s, _ := frame.Pack(page, l)
		unpacks(t, s, page, l)
		at := r.Intn(len(l))
		word(t, s, at, l[at], api.OK)
	}
}

func TestWhatIsUnpackedIsPackedAgain(t *testing.T) {
	right := 0
	r := rand.New(rand.NewSource(103))
	for range manyOf {
		s := anyText(r)
		page, l, e := frame.Unpack(s)
		if e == api.OK {
			right++
			packs(t, page, l, s)
		}
	}
	if right < 100 {
		t.Error("only so many texts were frames", right)
	}
}

func TestOtherPagesHaveOtherFrames(t *testing.T) {
	seen := map[string]int{}
	many := 0
	for page := range pages {
		for n := 1; n < 8; n++ {
			for _, w := range []uint64{0, 1, bit63, ones} {
				s, _ := frame.Pack(page, slices.Repeat([]uint64{w}, n))
				seen[s]++
				many++
			}
		}
	}
	if len(seen) != many {
		t.Error(len(seen), many)
	}
}

func TestABeginningIsNone(t *testing.T) {
	for _, l := range [][]uint64{{0}, {5}, {ones}, {5, bit63}, make([]uint64, 6), counted(20), make([]uint64, 40)} {
		s, _ := frame.Pack(len(l)%pages, l)
		for n := range s {
			noFrame(t, s[:n])
		}
	}
	for _, n := range []int{511, 512} {
		s, _ := frame.Pack(0, counted(n))
		for _, less := range []int{1, 2, 7, 8, 9, 16, 24, 4000, len(s) - 32, len(s) - 8, len(s) - 1, len(s)} {
			noFrame(t, s[:len(s)-less])
		}
	}
}

func TestWithSomethingBehindItIsNone(t *testing.T) {
	for _, l := range [][]uint64{{0}, {5, bit63}, counted(20), counted(511), counted(512)} {
		s, _ := frame.Pack(7, l)
		for more := 1; more < 40; more++ {
			for _, c := range []string{"\x00", "\x01", "\xff", "x"} {
				noFrame(t, s+strings.Repeat(c, more))
			}
		}
		noFrame(t, s+s)
		noFrame(t, sealed(s))
		noFrame(t, s+s[len(s)-8:])
		noFrame(t, "\x00"+s)
		noFrame(t, strings.Repeat("\x00", 8)+s)
	}
}

func TestWithSomethingBehindAndSealedAnewItIsNone(t *testing.T) {
	for n := 1; n < 20; n++ {
		text := texted(7, uint64(n), counted(n))
		for more := 1; more < 40; more++ {
			noFrame(t, sealed(text+strings.Repeat("\x00", more)))
		}
	}
}

func TestWithAnythingTurnedItIsNone(t *testing.T) {
	for _, l := range [][]uint64{{0}, {5, bit63}, counted(5)} {
		s, _ := frame.Pack(3, l)
		for at := range s {
			for turn := 1; turn < 256; turn++ {
				b := []byte(s)
				b[at] ^= byte(turn)
				noFrame(t, string(b))
			}
		}
	}
	s, _ := frame.Pack(63, counted(512))
	for at := 0; at < len(s); at += 37 {
		b := []byte(s)
		b[at] ^= 1 << (at % 8)
		noFrame(t, string(b))
	}
}

func TestWithOneByteLeftOutOrDoubledItIsNone(t *testing.T) {
	s, _ := frame.Pack(3, counted(5))
	for at := range s {
		noFrame(t, s[:at]+s[at+1:])
		noFrame(t, s[:at]+s[at:at+1]+s[at:])
	}
}

// The rules that hold everywhere.

func TestWhatIsHandedInStaysAsItIs(t *testing.T) {
	for _, n := range []int{0, 1, 2, 511, 512, 513} {
		full := counted(n + 5)
		was := slices.Clone(full)
		for _, page := range []int{-1, 0, 63, 64} {
			frame.Pack(page, full[:n])
		}
		if !slices.Equal(full, was) {
			t.Errorf("%d words, or what stands behind them, are others", n)
		}
	}
}

func TestTheSpareRoomCountsForNothing(t *testing.T) {
	for _, n := range []int{1, 2, 511, 512} {
		l := counted(n)
		packs(t, 8, append(slices.Clone(l), 7, 8, 9)[:n], framed(8, l))
		packs(t, 8, append(make([]uint64, 0, 2000), l...), framed(8, l))
	}
}

// spoil writes to words and to the spare room behind them.
func spoil(l []uint64) {
	l = l[:cap(l)]
	for i := range l {
		l[i] = ones
	}
}

func TestWordsWrittenToBehindPack(t *testing.T) {
	for _, n := range []int{1, 2, 511, 512} {
		l := counted(n)
		want := framed(8, l)
		s, _ := frame.Pack(8, l)
		spoil(l)
		if s != want {
			t.Errorf("the frame of %d words is another one, when they were changed", n)
		}
		unpacks(t, s, 8, counted(n))
	}
}

func TestWhatIsHandedOutIsTheCallersOwn(t *testing.T) {
	for _, n := range []int{1, 2, 511, 512} {
		s := framed(8, counted(n))
		_, first, _ := frame.Unpack(s)
		_, second, _ := frame.Unpack(s)
		spoil(first)
		if !slices.Equal(second, counted(n)) || s != framed(8, counted(n)) {
			t.Errorf("%d words: what was told before is another one", n)
		}
		unpacks(t, s, 8, counted(n))
		word(t, s, n-1, counted(n)[n-1], api.OK)
	}
}
