// Package hexa: thresholds and numbers as text: see doc/02-hexa.md.
package hexa

import "cullender/api"

// width is how many hexadecimal digits a number below api.All has.
const width = 14

const digits = "0123456789abcdef"

// Th returns the threshold n as text: its digits without trailing zeros.
func Th(n int) (string, api.Errno) {
	s, err := Rv(n)
	if err != api.OK {
		return "", err
	}
	end := len(s)
	// The first digit stays even if it is zero, so that 0 is "0".
	for end > 1 && s[end-1] == '0' {
		end--
	}
	return s[:end], api.OK
}

// Rv returns the random value n as text: all of its digits.
func Rv(n int) (string, api.Errno) {
	if n < 0 || n >= api.All {
		return "", api.ErrArg
	}
	var text [width]byte
	for i := width - 1; i >= 0; i-- {
		text[i] = digits[n%16]
		n /= 16
	}
	return string(text[:]), api.OK
}

// ParseTh returns the number whose Th is s.
func ParseTh(s string) (int, api.Errno) {
	if s == "0" {
		return 0, api.OK
	}
	// Any other text that ends in a zero is not what Th returns.
	if len(s) == 0 || len(s) > width || s[len(s)-1] == '0' {
		return 0, api.ErrForm
	}
	n, ok := number(s)
	if !ok {
		return 0, api.ErrForm
	}
	for i := len(s); i < width; i++ {
		n *= 16
	}
	return n, api.OK
}

// ParseRv returns the number whose Rv is s.
func ParseRv(s string) (int, api.Errno) {
	if len(s) != width {
		return 0, api.ErrForm
	}
	n, ok := number(s)
	if !ok {
		return 0, api.ErrForm
	}
	return n, api.OK
}

// number returns what the digits of s amount to. The caller has made sure that
// there are at most width of them, so that it does not overflow.
func number(s string) (int, bool) {
	n := 0
	for i := 0; i < len(s); i++ {
		d, ok := digit(s[i])
		if !ok {
			return 0, false
		}
		n = n*16 + d
	}
	return n, true
}

// digit returns the value of a digit; capital letters are none.
func digit(c byte) (int, bool) {
	switch {
	case '0' <= c && c <= '9':
		return int(c - '0'), true
	case 'a' <= c && c <= 'f':
		return int(c-'a') + 10, true
	}
	return 0, false
}
