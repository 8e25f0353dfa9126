// Package field is layer 1: see shared/doc/01-field.md.
package field

import (
	"math"

	"haycroft/api"
)

const (
	wordBits  = 64
	byteBits  = 8
	wordBytes = wordBits / byteBits
)

// Right: may a field be?
func Right(at int, bits int) bool {
	// at + bits could go round, wordBits - at can't.
	return at >= 0 && at < wordBits && bits >= 1 && bits <= wordBits-at
}

// Most: the greatest value.
func Most(bits int) uint64 {
	if bits < 1 {
		return 0
	}
	if bits >= wordBits {
		return math.MaxUint64
	}
	return 1<<bits - 1
}

// Get: a field's value.
func Get(w uint64, at int, bits int) uint64 {
	if !Right(at, bits) {
		return 0
	}
	return w >> at & Most(bits)
}

// Put: a field has a value.
func Put(w uint64, at int, bits int, v uint64) (uint64, api.Errno) {
	if !Right(at, bits) {
		return 0, api.ErrArg
	}
	if v > Most(bits) {
		return 0, api.ErrOver
	}
	return w&^(Most(bits)<<at) | v<<at, api.OK
}

// Flag: is a bit one?
func Flag(w uint64, at int) bool {
	return Get(w, at, 1) == 1
}

// Set: a bit is so.
func Set(w uint64, at int, on bool) uint64 {
	if !Right(at, 1) {
		return w
	}
	bit := uint64(1) << at
	if on {
		return w | bit
	}
	return w &^ bit
}

// Spread: values side by side.
func Spread(w uint64, widths []int) ([]uint64, api.Errno) {
	if !sideBySide(widths) {
		return nil, api.ErrArg
	}
	values := make([]uint64, 0, len(widths))
	at := 0
	for _, bits := range widths {
		values = append(values, Get(w, at, bits))
		at += bits
	}
	return values, api.OK
}

// Join: the word of values.
func Join(values []uint64, widths []int) (uint64, api.Errno) {
	if !sideBySide(widths) || len(values) != len(widths) {
		return 0, api.ErrArg
	}
	var w uint64
	at := 0
	for i, bits := range widths {
		next, e := Put(w, at, bits, values[i])
		if e != api.OK {
			return 0, e
		}
		w = next
		at += bits
	}
	return w, api.OK
}

// sideBySide: may fields of these widths stand in one word?
func sideBySide(widths []int) bool {
	at := 0
	for _, bits := range widths {
		if !Right(at, bits) {
			return false
		}
		at += bits
	}
	return true
}

// Words: bytes, eight a word.
func Words(s string) []uint64 {
	l := make([]uint64, wordsFor(len(s)))
	for i := range len(s) {
		l[i/wordBytes] |= uint64(s[i]) << (i % wordBytes * byteBits)
	}
	return l
}

// Bytes: the first ones of words.
func Bytes(l []uint64, n int) (string, api.Errno) {
	if n < 0 {
		return "", api.ErrArg
	}
	need := wordsFor(n)
	if len(l) < need {
		return "", api.ErrShort
	}
	if len(l) > need || !emptyBehind(l, n) {
		return "", api.ErrForm
	}
	b := make([]byte, n)
	for i := range b {
		b[i] = byteOf(l, i)
	}
	return string(b), api.OK
}

// wordsFor: how many words n bytes fill.
func wordsFor(n int) int {
	// n + 7 could go round.
	count := n / wordBytes
	if n%wordBytes > 0 {
		count++
	}
	return count
}

// byteOf: the byte of words at a place.
func byteOf(l []uint64, i int) byte {
	return byte(l[i/wordBytes] >> (i % wordBytes * byteBits))
}

// emptyBehind: are all bytes of words from the place n on 0?
func emptyBehind(l []uint64, n int) bool {
	for i := n; i < len(l)*wordBytes; i++ {
		if byteOf(l, i) != 0 {
			return false
		}
	}
	return true
}
