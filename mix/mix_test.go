package mix_test

import (
	"math"
	"math/big"
	"strings"
	"testing"

	"haycroft/api"
	"haycroft/mix"
)

const ones = uint64(math.MaxUint64)

// sizes are all numbers of buckets that may be, written out.
func sizes() []int {
	return []int{1, 2, 4, 8, 16, 32, 64, 128, 256, 512, 1024}
}

// wrongSizes may not be; some of them would be, if they went round, were cut, or had their sign dropped.
func wrongSizes() []int {
	return []int{
		math.MinInt, math.MinInt + 1, math.MinInt + 2, -1 << 62, -1 << 32, -1<<32 + 1, -2048, -1025, -1024, -1023, -512, -16, -4, -3, -2, -1, 0,
		3, 5, 6, 7, 9, 12, 15, 17, 24, 31, 33, 96, 100, 255, 257, 511, 513, 768, 1000, 1023, 1025, 1026, 2047, 2048, 2049, 4096, 1 << 16,
		1 << 20, 1 << 31, 1 << 32, 1<<32 + 1, 1<<32 + 1024, 1 << 62, math.MaxInt - 1, math.MaxInt,
	}
}

// numbers are those of which parts are asked: edges, each bit alone and each but one, and those of keys.
func numbers() []uint64 {
	l := []uint64{0, 1, 2, 3, 5, 21, 22, 1023, 1024, 1025, 0xabcd, 0xaaaaaaaaaaaaaaaa, 0x5555555555555555, 0x0123456789abcdef, 1<<32 - 1, 1<<50 - 1, 1<<50 + 1, 1<<63 - 1, 1<<63 + 1, ones - 1, ones}
	for at := range 64 {
		l = append(l, 1<<at, ones^1<<at)
	}
	for _, key := range keys() {
		l = append(l, mix.Key(key))
	}
	return l
}

// keys are of no byte, of one, of many; of all bytes.
func keys() []string {
	all := make([]byte, 256)
	for i := range all {
		all[i] = byte(i)
	}
	l := []string{"", "ab", "ba", "aa", "key", "\x00\x00", "a\x00", "\x00a", "é", "\xc3", "\xc3\xa9", "\xff\xfe", "\xed\xa0\x80", "ü€😀", strings.Repeat("\xff", 64), strings.Repeat("k", 63), strings.Repeat("k", 64), strings.Repeat("k", 65), strings.Repeat("long ", 1000), string(all)}
	for i := range all {
		l = append(l, string(all[i:i+1]))
	}
	return l
}

// keyNumber reckons a key's number with numbers that don't go round.
func keyNumber(key string) uint64 {
	modulus := new(big.Int).Lsh(big.NewInt(1), 64)
	prime := big.NewInt(1099511628211)
	factor := new(big.Int).SetUint64(15480190943371904987)
	h := new(big.Int).SetUint64(14695981039346656037)
	for _, b := range []byte(key) {
		h.Xor(h, big.NewInt(int64(b)))
		h.Mul(h, prime)
		h.Mod(h, modulus)
	}
	for turn := 1; turn <= 3; turn++ {
		h.Xor(h, new(big.Int).Rsh(h, 32))
		if turn == 3 {
			break
		}
		h.Mul(h, factor)
		h.Mod(h, modulus)
	}
	return h.Uint64()
}

// restOf is a number's rest by n, reckoned without n's being a power of two.
func restOf(h uint64, n int) int {
	return int(new(big.Int).Mod(new(big.Int).SetUint64(h), big.NewInt(int64(n))).Int64())
}

// highest is the number of the 14 highest bits, taken one by one.
func highest(h uint64) uint64 {
	var v uint64
	for at := 63; at >= 50; at-- {
		v *= 2
		if h&(1<<at) != 0 {
			v++
		}
	}
	return v
}

// P3.1

func TestMaxBuckets(t *testing.T) {
	if mix.MaxBuckets != 1024 {
		t.Error(mix.MaxBuckets)
	}
	if !mix.May(mix.MaxBuckets) || mix.May(mix.MaxBuckets-1) || mix.May(mix.MaxBuckets+1) || mix.May(mix.MaxBuckets*2) {
		t.Error("around MaxBuckets")
	}
}

func TestMay(t *testing.T) {
	for _, n := range sizes() {
		if !mix.May(n) {
			t.Errorf("%d may be", n)
		}
	}
	for _, n := range wrongSizes() {
		if mix.May(n) {
			t.Errorf("%d may not be", n)
		}
	}
}

func TestMayOfAllAround(t *testing.T) {
	count := 0
	for n := -5000; n <= 5000; n++ {
		if mix.May(n) {
			count++
		}
	}
	if count != len(sizes()) {
		t.Errorf("%d may be", count)
	}
	for at := range 64 {
		if n := int(uint64(1) << at); mix.May(n) != (at <= 10) {
			t.Errorf("May(%d)", n)
		}
	}
}

func TestKeyWrittenOut(t *testing.T) {
	all := make([]byte, 256)
	for i := range all {
		all[i] = byte(i)
	}
	for key, want := range map[string]uint64{
		"":                         0x893c554a46eab66d,
		"a":                        0xa8144603019718d1,
		"b":                        0xaf2d6eaf0fb3fbe8,
		"k":                        0xc9e787bc5a35140a,
		"ab":                       0x440c92a94f644f03,
		"ba":                       0x26905e5da6b780b7,
		"key":                      0xe32addf83c755026,
		"\x00":                     0xeeba730de488cdd2,
		"\x00\x00":                 0xc7e9d1e399480c58,
		"\x7f":                     0xf7e2ca65dec07588,
		"\x80":                     0xddcd1f5d34162f56,
		"\xff":                     0x99868c833c792b30,
		"é":                        0x6e2e4493a0951162,
		strings.Repeat("\xff", 64): 0x9a2651d98b01d9c4,
		string(all):                0xdc7155089a5e32f3,
		"the quick brown fox jumps over the lazy dog": 0x9034a68941f20444,
	} {
		if got := mix.Key(key); got != want {
			t.Errorf("Key(%q): %x, not %x", key, got, want)
		}
	}
}

func TestKeyReckoned(t *testing.T) {
	for _, key := range keys() {
		if got, want := mix.Key(key), keyNumber(key); got != want {
			t.Errorf("Key(%q): %x, not %x", key, got, want)
		}
	}
}

func TestKeyOfEachByteAnywhere(t *testing.T) {
	for _, at := range []int{0, 1, 7, 8, 31, 63} {
		for b := range 256 {
			bytes := []byte(strings.Repeat("x", 64))
			bytes[at] = byte(b)
			key := string(bytes)
			if got, want := mix.Key(key), keyNumber(key); got != want {
				t.Errorf("Key(%q): %x, not %x", key, got, want)
			}
		}
	}
}

func TestKeyAgain(t *testing.T) {
	first := mix.Key("key")
	for _, key := range keys() {
		mix.Key(key)
	}
	if mix.Key("key") != first {
		t.Error("another number the second time")
	}
}

func TestBucket(t *testing.T) {
	for _, c := range []struct {
		h    uint64
		n    int
		want int
	}{
		{0, 1, 0}, {0, 1024, 0}, {1, 1, 0}, {1, 2, 1}, {1, 1024, 1}, {2, 2, 0}, {15, 16, 15}, {16, 16, 0}, {0xabcd, 16, 13},
		{1023, 1024, 1023}, {1024, 1024, 0}, {1025, 1024, 1}, {1024, 512, 0}, {1 << 63, 1024, 0}, {1<<63 + 7, 8, 7},
		{ones, 1, 0}, {ones, 2, 1}, {ones, 512, 511}, {ones, 1024, 1023}, {ones - 1, 1024, 1022},
	} {
		if got := mix.Bucket(c.h, c.n); got != c.want {
			t.Errorf("Bucket(%x, %d): %d, not %d", c.h, c.n, got, c.want)
		}
	}
	if mix.Bucket(mix.Key(""), 1) != 0 {
		t.Error("the empty key among 1")
	}
}

func TestBucketReckoned(t *testing.T) {
	for _, h := range numbers() {
		for _, n := range sizes() {
			if got, want := mix.Bucket(h, n), restOf(h, n); got != want {
				t.Errorf("Bucket(%x, %d): %d, not %d", h, n, got, want)
			}
		}
	}
}

func TestBucketOfWrongSizes(t *testing.T) {
	for _, h := range numbers() {
		for _, n := range wrongSizes() {
			if got := mix.Bucket(h, n); got != 0 {
				t.Errorf("Bucket(%x, %d): %d", h, n, got)
			}
		}
	}
}

func TestTag(t *testing.T) {
	for h, want := range map[uint64]uint64{
		0: 0, 1: 0, 1<<50 - 1: 0, 1 << 50: 1, 1<<50 + 1: 1, 1<<51 - 1: 1, 1 << 51: 2, 3 << 50: 3, 1 << 60: 1024, 1 << 63: 8192, ones - 1<<50: 16382, ones: 16383, ones - 1: 16383,
	} {
		if got := mix.Tag(h); got != want {
			t.Errorf("Tag(%x): %d, not %d", h, got, want)
		}
	}
	if mix.Tag(ones) != 1<<api.TagBits-1 {
		t.Error("not the greatest one of its bits")
	}
}

func TestTagReckoned(t *testing.T) {
	for _, h := range numbers() {
		if got, want := mix.Tag(h), highest(h); got != want {
			t.Errorf("Tag(%x): %d, not %d", h, got, want)
		}
	}
}

func TestSame(t *testing.T) {
	const lowest = uint64(1) << 50
	for _, c := range []struct {
		a, b uint64
		n    int
		want bool
	}{
		{0, 0, 1, true}, {0, 0, 1024, true}, {ones, ones, 1024, true}, {0, ones, 1, false}, {0, ones, 1024, false},
		{5, 21, 16, true}, {5, 22, 16, false}, {5, 21, 32, false}, {5, 5 | 1<<60, 16, false},
		{5, 22, 1, true}, {5, 6, 2, false}, {5, 7, 2, true}, {0, 1024, 1024, true}, {0, 512, 1024, false}, {0, 512, 512, true},
		{0, lowest, 1, false}, {0, lowest, 1024, false}, {ones, ones - lowest, 1, false}, {ones, ones - lowest, 1024, false},
		{0, lowest - 1, 1, true}, {0, lowest - 1024, 1024, true}, {0, lowest - 1, 2, false}, {lowest, 2*lowest - 1, 1, true},
		{0, 1 << 63, 1, false}, {7, 7 + 1<<49, 1024, true},
	} {
		if got := mix.Same(c.a, c.b, c.n); got != c.want {
			t.Errorf("Same(%x, %x, %d): %t", c.a, c.b, c.n, got)
		}
		if got := mix.Same(c.b, c.a, c.n); got != c.want {
			t.Errorf("Same(%x, %x, %d): %t", c.b, c.a, c.n, got)
		}
	}
}

func TestSameIsOneBucketAndOneTag(t *testing.T) {
	l := numbers()
	for _, a := range l {
		for _, b := range l {
			for _, n := range sizes() {
				if got, want := mix.Same(a, b, n), a%uint64(n) == b%uint64(n) && a>>50 == b>>50; got != want {
					t.Fatalf("Same(%x, %x, %d): %t", a, b, n, got)
				}
			}
		}
	}
}

func TestSameOfWrongSizesIsOneTag(t *testing.T) {
	l := numbers()
	for _, a := range l {
		for _, b := range l {
			for _, n := range wrongSizes() {
				if got, want := mix.Same(a, b, n), a>>50 == b>>50; got != want {
					t.Fatalf("Same(%x, %x, %d): %t", a, b, n, got)
				}
			}
		}
	}
	if !mix.Same(5, 22, 3) || mix.Same(5, 22|1<<50, 3) || !mix.Same(5, 22, 0) || !mix.Same(5, 22, 2048) || !mix.Same(5, 22, math.MinInt) {
		t.Error("buckets were looked at")
	}
}

// P3.2

func TestHalfAsManyBuckets(t *testing.T) {
	for _, h := range numbers() {
		for _, n := range sizes()[1:] {
			if got, want := mix.Bucket(h, n/2), mix.Bucket(h, n)%(n/2); got != want {
				t.Errorf("%x among %d: %d, not %d", h, n/2, got, want)
			}
		}
	}
}

func TestTwiceAsManyBucketsPartEachInTwo(t *testing.T) {
	for _, n := range sizes()[:10] {
		met := make([]int, 2*n)
		for h := range uint64(4 * n) {
			bucket, wide := mix.Bucket(h, n), mix.Bucket(h, 2*n)
			if wide != bucket && wide != bucket+n {
				t.Errorf("%d of %d is %d of %d", bucket, n, wide, 2*n)
			}
			met[wide]++
		}
		for bucket, count := range met {
			if count != 2 {
				t.Errorf("%d of %d: met %d times", bucket, 2*n, count)
			}
		}
	}
}

func TestSameAmongTwiceAsManyIsSameAmongHalf(t *testing.T) {
	l := numbers()
	for _, a := range l {
		for _, b := range l {
			for _, n := range sizes()[1:] {
				if mix.Same(a, b, n) && !mix.Same(a, b, n/2) {
					t.Fatalf("%x and %x: the same among %d, not among %d", a, b, n, n/2)
				}
			}
		}
	}
}
