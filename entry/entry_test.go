package entry_test

import (
	"math"
	"math/rand"
	"testing"

	"haycroft/api"
	"haycroft/entry"
)

// The places of the chapter as numbers, written out, so that nothing here leans on the program's own ones.
const (
	ones    = uint64(math.MaxUint64)
	addrs   = uint64(281474976710656)     // 2^48: so many addresses, and what a tag of 1 counts
	tags    = uint64(16384)               // 2^14
	fresh   = uint64(4611686018427387904) // 2^62
	taken   = uint64(9223372036854775808) // 2^63
	longRun = 20000
)

// yesNo are both.
func yesNo() []bool {
	return []bool{false, true}
}

// rightAddrs are addresses that an entry may have, 0 first.
func rightAddrs() []uint64 {
	l := []uint64{0, 1, 2, 5, 9, 70, 0x123456789abc, 0xaaaaaaaaaaaa, 0x555555555555, 1<<32 - 1, 1 << 32, addrs - 2, addrs - 1}
	for i := range 48 {
		l = append(l, 1<<i, addrs-1-1<<i)
	}
	return l
}

// wrongAddrs are beyond the greatest one; some of them would be right, if they went round.
func wrongAddrs() []uint64 {
	l := []uint64{addrs, addrs + 1, addrs + 5, 2*addrs - 1, tags * addrs, fresh, fresh + 1, taken, taken + 5, ones - 1, ones, ones - addrs + 1}
	for i := 48; i < 64; i++ {
		l = append(l, 1<<i, 1<<i+1, 1<<i+addrs-1)
	}
	return l
}

// rightTags are tags that an entry may have.
func rightTags() []uint64 {
	l := []uint64{0, 1, 2, 3, 5, 70, 255, 256, 0x1555, 0x2aaa, 12921, tags - 2, tags - 1}
	for i := range 14 {
		l = append(l, 1<<i, tags-1-1<<i)
	}
	return l
}

// wrongTags have too many bits; some of them would be right, if they went round.
func wrongTags() []uint64 {
	l := []uint64{tags, tags + 1, tags + 5, 2*tags - 1, 65535, 65536, 65541, addrs, addrs + 1, taken, taken + 3, ones - 1, ones, ones - tags + 1}
	for i := 14; i < 64; i++ {
		l = append(l, 1<<i, 1<<i+1, 1<<i+tags-1)
	}
	return l
}

// wordOf lays an entry by place values.
func wordOf(x api.Entry) uint64 {
	w := taken + x.Addr + x.Tag*addrs
	if x.Fresh {
		w += fresh
	}
	return w
}

// read takes a word apart by place values; ok tells whether it is an entry's.
func read(w uint64) (x api.Entry, ok bool) {
	x = api.Entry{Addr: w % addrs, Tag: w / addrs % tags, Fresh: w/fresh%2 == 1}
	if w < taken {
		return x, false
	}
	if x.Fresh {
		return x, x.Addr == 0
	}
	return x, x.Addr > 0
}

// anyWords are words of all sorts: single bits, all but one, mixed ones, many of them with no address.
func anyWords() []uint64 {
	l := []uint64{0, ones, 0x0123456789abcdef, 0xfedcba9876543210, 0xaaaaaaaaaaaaaaaa, 0x5555555555555555}
	for i := range 64 {
		l = append(l, 1<<i, ones-1<<i, 1<<i-1, ones<<i, taken|1<<i, taken|fresh|1<<i)
	}
	r := rand.New(rand.NewSource(16))
	for range longRun {
		w := r.Uint64()
		bare := w - w%addrs
		l = append(l, w, w|taken, w>>r.Intn(64), bare, bare|taken, bare|fresh, bare|taken|fresh, bare+w%2)
	}
	return l
}

// nones are words that are no entry's, but for 0, each with a right tag in its place.
func nones() []uint64 {
	var l []uint64
	for _, tag := range rightTags() {
		for _, addr := range rightAddrs() {
			w := addr + tag*addrs
			if w > 0 {
				l = append(l, w)
			}
			// Neither fresh nor somewhere, fresh though it is somewhere, or not a taken slot's.
			if addr == 0 {
				l = append(l, w+taken, w+fresh)
			} else {
				l = append(l, w+taken+fresh, w+fresh)
			}
		}
	}
	return l
}

// entries are all that may be, of these addresses and tags.
func entries() []api.Entry {
	var l []api.Entry
	for _, addr := range rightAddrs() {
		for _, tag := range rightTags() {
			l = append(l, api.Entry{Addr: addr, Tag: tag, Fresh: addr == 0})
		}
	}
	return l
}

// packs must be an entry that may be, with this word.
func packs(t *testing.T, x api.Entry, want uint64) {
	t.Helper()
	if !entry.Right(x) {
		t.Fatalf("Right(%v) is false", x)
	}
	if g, e := entry.Pack(x); g != want || e != api.OK {
		t.Fatalf("Pack(%v) is %x, error %d, not %x", x, g, e, want)
	}
}

// refused must be an entry that may not be.
func refused(t *testing.T, x api.Entry) {
	t.Helper()
	if entry.Right(x) {
		t.Fatalf("Right(%v) is true", x)
	}
	if g, e := entry.Pack(x); g != 0 || e != api.ErrArg {
		t.Fatalf("Pack(%v) is %x, error %d", x, g, e)
	}
}

// unpacks must be the word of this entry.
func unpacks(t *testing.T, w uint64, want api.Entry) {
	t.Helper()
	if g, e := entry.Unpack(w); g != want || e != api.OK {
		t.Fatalf("Unpack(%x) is %v, error %d, not %v", w, g, e, want)
	}
}

// isNone must be a word of no entry.
func isNone(t *testing.T, w uint64, want api.Errno) {
	t.Helper()
	if g, e := entry.Unpack(w); g != (api.Entry{}) || e != want {
		t.Fatalf("Unpack(%x) is %v, error %d, not %d", w, g, e, want)
	}
}

// P16.1

func TestRightAndPackByHand(t *testing.T) {
	for _, x := range []struct {
		x    api.Entry
		want uint64
	}{
		{api.Entry{Fresh: true}, 0xc000000000000000},
		{api.Entry{Tag: 1, Fresh: true}, 0xc001000000000000},
		{api.Entry{Tag: 16383, Fresh: true}, 0xffff000000000000},
		{api.Entry{Addr: 1}, 0x8000000000000001},
		{api.Entry{Addr: 5, Tag: 3}, 0x8003000000000005},
		{api.Entry{Addr: 1, Tag: 1}, 0x8001000000000001},
		{api.Entry{Addr: 70, Tag: 12921}, 0xb279000000000046},
		{api.Entry{Addr: 1, Tag: 16383}, 0xbfff000000000001},
		{api.Entry{Addr: 0x123456789abc, Tag: 0x2aaa}, 0xaaaa123456789abc},
		{api.Entry{Addr: api.MaxAddr}, 0x8000ffffffffffff},
		{api.Entry{Addr: api.MaxAddr, Tag: 1}, 0x8001ffffffffffff},
		{api.Entry{Addr: api.MaxAddr, Tag: 16383}, 0xbfffffffffffffff},
	} {
		packs(t, x.x, x.want)
		unpacks(t, x.want, x.x)
	}
}

func TestPackOfEachEntryThatMayBe(t *testing.T) {
	for _, x := range entries() {
		packs(t, x, wordOf(x))
	}
	for tag := range tags {
		packs(t, api.Entry{Tag: tag, Fresh: true}, taken+fresh+tag*addrs)
		packs(t, api.Entry{Addr: 1, Tag: tag}, taken+tag*addrs+1)
		packs(t, api.Entry{Addr: addrs - 1, Tag: tag}, taken+tag*addrs+addrs-1)
	}
}

func TestFreshJustIfTheAddressIs0(t *testing.T) {
	for _, tag := range rightTags() {
		for _, addr := range rightAddrs() {
			refused(t, api.Entry{Addr: addr, Tag: tag, Fresh: addr > 0})
		}
	}
}

func TestAddressesAboveTheGreatest(t *testing.T) {
	for _, addr := range wrongAddrs() {
		for _, is := range yesNo() {
			for _, tag := range rightTags() {
				refused(t, api.Entry{Addr: addr, Tag: tag, Fresh: is})
			}
			for _, tag := range wrongTags() {
				refused(t, api.Entry{Addr: addr, Tag: tag, Fresh: is})
			}
		}
	}
}

func TestTagsOfTooManyBits(t *testing.T) {
	for _, tag := range wrongTags() {
		for _, addr := range rightAddrs() {
			for _, is := range yesNo() {
				refused(t, api.Entry{Addr: addr, Tag: tag, Fresh: is})
			}
		}
	}
}

func TestUnpackOf0(t *testing.T) {
	isNone(t, 0, api.ErrNone)
}

func TestUnpackOfEachSingleBit(t *testing.T) {
	// Bit 63 alone is no entry's either: it is neither fresh nor somewhere.
	for i := range 64 {
		isNone(t, 1<<i, api.ErrForm)
	}
}

func TestUnpackOfTwoBits(t *testing.T) {
	unpacks(t, taken+fresh, api.Entry{Fresh: true})
	for i := range 62 {
		w := uint64(1) << i
		if i < 48 {
			unpacks(t, taken+w, api.Entry{Addr: w})
		} else {
			isNone(t, taken+w, api.ErrForm)
		}
		isNone(t, fresh+w, api.ErrForm)
	}
}

func TestUnpackOfThreeBits(t *testing.T) {
	for i := range 62 {
		w := uint64(1) << i
		if i < 48 {
			isNone(t, taken+fresh+w, api.ErrForm)
		} else {
			unpacks(t, taken+fresh+w, api.Entry{Tag: w / addrs, Fresh: true})
		}
	}
}

func TestUnpackByHandOfWordsThatAreNones(t *testing.T) {
	for _, w := range []uint64{
		0x0000000000000001, // an address alone
		0x0000ffffffffffff,
		0x0003000000000005, // an address and a tag
		0x3fffffffffffffff,
		0x4000000000000000, // fresh alone
		0x4001000000000000,
		0x7fff000000000000,
		0x7fffffffffffffff,
		0x8000000000000000, // taken alone
		0x8001000000000000, // not fresh, and nowhere
		0xbfff000000000000,
		0xc000000000000001, // fresh, and somewhere
		0xc003000000000005,
		0xc000ffffffffffff,
		0xffff000000000001,
		ones,
	} {
		isNone(t, w, api.ErrForm)
	}
}

func TestUnpackOfEachWordThatIsNones(t *testing.T) {
	for _, w := range nones() {
		isNone(t, w, api.ErrForm)
	}
}

func TestUnpackOfAnyWord(t *testing.T) {
	kinds := map[api.Errno]int{}
	for _, w := range anyWords() {
		x, ok := read(w)
		want := api.OK
		switch {
		case ok:
			unpacks(t, w, x)
		case w == 0:
			want = api.ErrNone
			isNone(t, w, want)
		default:
			want = api.ErrForm
			isNone(t, w, want)
		}
		kinds[want]++
	}
	if kinds[api.OK] < longRun || kinds[api.ErrForm] < longRun || kinds[api.ErrNone] < 1 {
		t.Error("too few of one kind", kinds)
	}
}

// P16.2

// goesTo is a To that must do.
func goesTo(t *testing.T, w, addr, want uint64) {
	t.Helper()
	if g, e := entry.To(w, addr); g != want || e != api.OK {
		t.Fatalf("To(%x, %x) is %x, error %d, not %x", w, addr, g, e, want)
	}
}

// staysPut is a To that must not do.
func staysPut(t *testing.T, w, addr uint64, want api.Errno) {
	t.Helper()
	if g, e := entry.To(w, addr); g != 0 || e != want {
		t.Fatalf("To(%x, %x) is %x, error %d, not %d", w, addr, g, e, want)
	}
}

// has is a Has that must answer so.
func has(t *testing.T, w, tag uint64, want bool) {
	t.Helper()
	if g := entry.Has(w, tag); g != want {
		t.Fatalf("Has(%x, %x) is %v", w, tag, g)
	}
}

// someAddrs are few that an entry which isn't fresh may have.
func someAddrs() []uint64 {
	return []uint64{1, 2, 70, 0x123456789abc, addrs - 2, addrs - 1}
}

func TestFreshOfTheExample(t *testing.T) {
	if g, e := entry.Fresh(1); g != 13835339530258874368 || e != api.OK {
		t.Error(g, e)
	}
	unpacks(t, 13835339530258874368, api.Entry{Tag: 1, Fresh: true})
}

func TestFreshByHand(t *testing.T) {
	for _, x := range []struct{ tag, want uint64 }{
		{0, 0xc000000000000000},
		{1, 0xc001000000000000},
		{12921, 0xf279000000000000},
		{16383, 0xffff000000000000},
	} {
		if g, e := entry.Fresh(x.tag); g != x.want || e != api.OK {
			t.Errorf("Fresh(%d) is %x, error %d, not %x", x.tag, g, e, x.want)
		}
	}
}

func TestFreshOfEachTag(t *testing.T) {
	for tag := range tags {
		want := taken + fresh + tag*addrs
		if g, e := entry.Fresh(tag); g != want || e != api.OK {
			t.Fatalf("Fresh(%d) is %x, error %d, not %x", tag, g, e, want)
		}
		unpacks(t, want, api.Entry{Tag: tag, Fresh: true})
	}
}

func TestFreshOfTagsOfTooManyBits(t *testing.T) {
	for _, tag := range wrongTags() {
		if g, e := entry.Fresh(tag); g != 0 || e != api.ErrArg {
			t.Errorf("Fresh(%x) is %x, error %d", tag, g, e)
		}
	}
}

func TestToByHand(t *testing.T) {
	for _, x := range []struct{ w, addr, want uint64 }{
		{0xc000000000000000, 1, 0x8000000000000001},
		{0xc001000000000000, 70, 0x8001000000000046},
		{0xffff000000000000, 9, 0xbfff000000000009},
		{0xffff000000000000, 0xffffffffffff, 0xbfffffffffffffff},
		{0x8000000000000001, 0xffffffffffff, 0x8000ffffffffffff},
		{0x8003000000000005, 1, 0x8003000000000001},
		{0x8003000000000005, 5, 0x8003000000000005},
		{0xbfffffffffffffff, 1, 0xbfff000000000001},
		{0xbfffffffffffffff, 0xffffffffffff, 0xbfffffffffffffff},
	} {
		goesTo(t, x.w, x.addr, x.want)
	}
}

func TestToOfEachEntry(t *testing.T) {
	for _, x := range entries() {
		for _, addr := range someAddrs() {
			want := taken + x.Tag*addrs + addr
			goesTo(t, wordOf(x), addr, want)
			unpacks(t, want, api.Entry{Addr: addr, Tag: x.Tag})
		}
	}
}

func TestToEachAddress(t *testing.T) {
	for _, from := range []api.Entry{{Fresh: true}, {Tag: 16383, Fresh: true}, {Addr: 1}, {Addr: 5, Tag: 3}, {Addr: addrs - 1, Tag: 16383}} {
		for _, addr := range rightAddrs() {
			if addr > 0 {
				goesTo(t, wordOf(from), addr, taken+from.Tag*addrs+addr)
			}
		}
	}
}

func TestToNowhere(t *testing.T) {
	for _, x := range entries() {
		staysPut(t, wordOf(x), 0, api.ErrArg)
		staysPut(t, wordOf(x), addrs, api.ErrArg)
		staysPut(t, wordOf(x), ones, api.ErrArg)
	}
	for _, addr := range wrongAddrs() {
		staysPut(t, taken+fresh, addr, api.ErrArg)
		staysPut(t, taken+fresh+(tags-1)*addrs, addr, api.ErrArg)
		staysPut(t, taken+1, addr, api.ErrArg)
		staysPut(t, taken+3*addrs+5, addr, api.ErrArg)
		staysPut(t, fresh-1+taken, addr, api.ErrArg)
	}
}

func TestToOfWordsThatAreNones(t *testing.T) {
	// What the word is comes first, wrong addresses behind it.
	to := append(someAddrs(), 0, addrs, addrs+1, taken, ones)
	for _, addr := range to {
		staysPut(t, 0, addr, api.ErrNone)
		for _, w := range nones() {
			staysPut(t, w, addr, api.ErrForm)
		}
	}
	for _, addr := range wrongAddrs() {
		staysPut(t, 0, addr, api.ErrNone)
		staysPut(t, 5, addr, api.ErrForm)
		staysPut(t, taken, addr, api.ErrForm)
		staysPut(t, ones, addr, api.ErrForm)
	}
}

func TestToOfAnyWord(t *testing.T) {
	for _, w := range anyWords() {
		x, ok := read(w)
		switch {
		case ok:
			goesTo(t, w, 70, taken+x.Tag*addrs+70)
			staysPut(t, w, 0, api.ErrArg)
			staysPut(t, w, addrs, api.ErrArg)
		case w == 0:
			staysPut(t, w, 70, api.ErrNone)
		default:
			staysPut(t, w, 70, api.ErrForm)
		}
	}
}

func TestHasOfEachPairOfTags(t *testing.T) {
	for _, tag := range rightTags() {
		for _, other := range rightTags() {
			has(t, taken+fresh+tag*addrs, other, tag == other)
			for _, addr := range someAddrs() {
				has(t, taken+tag*addrs+addr, other, tag == other)
			}
		}
	}
}

func TestHasOfEachTag(t *testing.T) {
	for tag := range tags {
		has(t, 0xc003000000000000, tag, tag == 3)
		has(t, 0x8003000000000005, tag, tag == 3)
		has(t, taken+fresh+tag*addrs, tag, true)
		has(t, taken+tag*addrs+1, tag, true)
		has(t, taken+tag*addrs+addrs-1, tag, true)
	}
}

func TestHasOfTagsOfTooManyBits(t *testing.T) {
	for _, x := range entries() {
		w := wordOf(x)
		for _, tag := range []uint64{tags, tags + 1, 65535, addrs, taken, ones, x.Tag + tags, x.Tag + 2*tags, x.Tag + 3*tags, x.Tag + addrs, x.Tag + taken, w, w / addrs} {
			has(t, w, tag, false)
		}
	}
	for _, tag := range wrongTags() {
		has(t, taken+fresh, tag, false)
		has(t, taken+1, tag, false)
		has(t, taken+fresh+(tags-1)*addrs, tag, false)
	}
}

func TestHasOfAFreeSlot(t *testing.T) {
	for tag := range tags {
		has(t, 0, tag, false)
	}
	for _, tag := range wrongTags() {
		has(t, 0, tag, false)
	}
}

func TestHasOfWordsThatAreNones(t *testing.T) {
	for _, w := range nones() {
		has(t, w, w/addrs%tags, false)
		has(t, w, 0, false)
		has(t, w, 1, false)
		has(t, w, w, false)
		has(t, w, ones, false)
	}
}

func TestHasOfAnyWord(t *testing.T) {
	for _, w := range anyWords() {
		x, ok := read(w)
		has(t, w, x.Tag, ok)
		has(t, w, (x.Tag+1)%tags, false)
		has(t, w, x.Tag^(tags/2), false)
		has(t, w, x.Tag+tags, false)
	}
}

// P16.3

func TestWhatIsPackedIsUnpacked(t *testing.T) {
	for _, x := range entries() {
		w, e := entry.Pack(x)
		if e != api.OK {
			t.Fatalf("Pack(%v): error %d", x, e)
		}
		unpacks(t, w, x)
		has(t, w, x.Tag, true)
	}
}

func TestWhatIsUnpackedIsPacked(t *testing.T) {
	right, first := 0, 0
	for _, w := range anyWords() {
		x, e := entry.Unpack(w)
		if e != api.OK {
			continue
		}
		right++
		if x.Fresh {
			first++
		}
		packs(t, x, w)
	}
	if right < longRun || first < longRun/10 {
		t.Error("only so many words were entries'", right, first)
	}
}

func TestNoWordIs0(t *testing.T) {
	for _, x := range entries() {
		w, e := entry.Pack(x)
		if w == 0 || e != api.OK {
			t.Fatalf("Pack(%v) is %x, error %d", x, w, e)
		}
		for _, addr := range someAddrs() {
			if g, e := entry.To(w, addr); g == 0 || e != api.OK {
				t.Fatalf("To(%x, %x) is %x, error %d", w, addr, g, e)
			}
		}
	}
	for tag := range tags {
		if w, e := entry.Fresh(tag); w == 0 || e != api.OK {
			t.Fatalf("Fresh(%d) is %x, error %d", tag, w, e)
		}
	}
}

func TestNoTwoHaveOneWord(t *testing.T) {
	seen := map[uint64]api.Entry{}
	for _, x := range entries() {
		w, e := entry.Pack(x)
		if e != api.OK {
			t.Fatalf("Pack(%v): error %d", x, e)
		}
		if y, there := seen[w]; there && y != x {
			t.Fatalf("%v and %v have the word %x", x, y, w)
		}
		seen[w] = x
	}
}

func TestThereAndOnAndOn(t *testing.T) {
	// An entry keeps its tag wherever it goes, and is never fresh again.
	for _, tag := range rightTags() {
		w, e := entry.Fresh(tag)
		if e != api.OK {
			t.Fatalf("Fresh(%d): error %d", tag, e)
		}
		for _, addr := range rightAddrs() {
			if addr == 0 {
				continue
			}
			if w, e = entry.To(w, addr); e != api.OK {
				t.Fatalf("To(%x): error %d", addr, e)
			}
			unpacks(t, w, api.Entry{Addr: addr, Tag: tag})
			has(t, w, tag, true)
		}
	}
}
