// Package mix: numbers that look like any others: see doc/01-mix.md.
package mix

import "cullender/api"

// The odd factors of Mix.
const (
	factor1 uint64 = 13787848793156543929
	factor2 uint64 = 10723151780598845931
)

// The inverses of the factors modulo 2^64: an odd factor always has one.
const (
	inverse1 uint64 = 10871156337175269513
	inverse2 uint64 = 3573116690164977347
)

const step uint64 = 11400714819323198485

// The start and the factor of the hash of a string (FNV-1a).
const (
	hashStart  uint64 = 14695981039346656037
	hashFactor uint64 = 1099511628211
)

// Mix scatters x; it is a bijection, with Unmix as its inverse.
func Mix(x uint64) uint64 {
	x ^= x >> 30
	x *= factor1
	x ^= x >> 27
	x *= factor2
	x ^= x >> 31
	return x
}

// Unmix returns the number of which Mix returns x.
//
// Each xor with a shift by s is undone by xors with the shifts by s and 2s;
// a third one, by 3s, would shift out all 64 bits.
func Unmix(x uint64) uint64 {
	x ^= x>>31 ^ x>>62
	x *= inverse2
	x ^= x>>27 ^ x>>54
	x *= inverse1
	x ^= x>>30 ^ x>>60
	return x
}

// Next returns the state that follows, and the number generated from it.
func Next(state uint64) (uint64, uint64) {
	next := state + step
	return next, Mix(next)
}

// Of returns the hash of s, from 0 to api.All - 1.
func Of(s string) (int, api.Errno) {
	if len(s) > api.MaxText {
		return 0, api.ErrLarge
	}
	hash := hashStart
	// By index, since a range over a string would yield runes, not bytes.
	for i := 0; i < len(s); i++ {
		hash ^= uint64(s[i])
		hash *= hashFactor
	}
	return int(Mix(hash) >> 8), api.OK
}
