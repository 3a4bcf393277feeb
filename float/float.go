// Package float is layer 1: see shared/doc/01-float.md.
package float

import (
	"cmp"
	"math"
	"strconv"
	"strings"
)

// Bits of their own names; kept is the one NaN that is right.
const (
	nought      uint64 = 0
	minusNought uint64 = 1 << 63
	inf         uint64 = 0x7ff0 << 48
	minusInf    uint64 = 0xfff0 << 48
	kept        uint64 = 0x7ff8 << 48
)

const (
	signBit = uint64(1) << 63
	width   = 8  // bytes of a number
	digits  = 16 // of a number that is shown to the base 16
)

// Of: the bits of a float.
func Of(f float64) int {
	if math.IsNaN(f) {
		return int(kept)
	}
	return int(math.Float64bits(f))
}

// To: the float of bits.
func To(n int) float64 { return math.Float64frombits(uint64(n)) }

// Right: are bits right?
func Right(n int) bool { return uint64(n) == kept || !math.IsNaN(To(n)) }

// Order: is one below, at or above the other?
func Order(a, b int) int {
	// By way of the float each NaN becomes the one that is kept.
	return cmp.Compare(rank(Of(To(a))), rank(Of(To(b))))
}

// rank turns bits into a number whose order is that of the floats: all bits of
// what is negative, since there more bits are less; else only the sign, so that
// it stands above the negative ones.
func rank(n int) uint64 {
	u := uint64(n)
	if u&signBit != 0 {
		return ^u
	}
	return u | signBit
}

// unrank undoes rank.
func unrank(r uint64) int {
	if r&signBit != 0 {
		return int(r &^ signBit)
	}
	return int(^r)
}

// Bytes: eight bytes in the same order.
func Bytes(n int) []byte {
	if !Right(n) {
		return nil
	}
	b := make([]byte, width)
	r := rank(n)
	for i := range b {
		b[width-1-i] = byte(r >> (8 * i))
	}
	return b
}

// From: the bits of eight bytes.
func From(b []byte) (int, bool) {
	if len(b) != width {
		return 0, false
	}
	r := uint64(0)
	for _, x := range b {
		r = r<<8 | uint64(x)
	}
	n := unrank(r)
	if !Right(n) {
		return 0, false
	}
	return n, true
}

// Show: bits as text.
func Show(n int) string {
	if !Right(n) {
		return "?"
	}
	switch uint64(n) {
	case kept:
		return "nan"
	case inf:
		return "inf"
	case minusInf:
		return "-inf"
	case nought:
		return "0"
	case minusNought:
		return "-0"
	}
	s := strconv.FormatUint(uint64(n), 16)
	return "x" + strings.Repeat("0", digits-len(s)) + s
}

// Read: the bits of a text.
func Read(s string) (int, bool) {
	u, ok := parse(s)
	// Only what Show would tell is a number's text: no other digits, no bits
	// that have a name, none that aren't right.
	if !ok || Show(int(u)) != s {
		return 0, false
	}
	return int(u), true
}

// parse takes the texts that Show tells, and some others.
func parse(s string) (uint64, bool) {
	switch s {
	case "nan":
		return kept, true
	case "inf":
		return inf, true
	case "-inf":
		return minusInf, true
	case "0":
		return nought, true
	case "-0":
		return minusNought, true
	}
	hex, ok := strings.CutPrefix(s, "x")
	if !ok {
		return 0, false
	}
	u, err := strconv.ParseUint(hex, 16, 64)
	return u, err == nil
}
