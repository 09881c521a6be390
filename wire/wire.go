// Package wire reads and writes numbers in bytes. See shared/doc/01-wire.md.
package wire

import (
	"bytes"
	"slices"
	"strings"

	"ipsecgate/api"
)

const digits = "0123456789abcdef"

// Number returns the number in the width bytes from the offset at on, the highest byte first.
func Number(b []byte, at, width int) (uint64, bool) {
	if !isWidth(width) || !inside(b, at, width) {
		return 0, false
	}
	var v uint64
	for _, x := range b[at : at+width] {
		v = v<<8 | uint64(x)
	}
	return v, true
}

// Put returns b followed by the lowest width bytes of v, the highest byte first.
func Put(b []byte, v uint64, width int) []byte {
	if !isWidth(width) {
		return slices.Clone(b)
	}
	// A copy, because an append could write into the spare capacity of b.
	out := make([]byte, len(b), len(b)+width)
	copy(out, b)
	for i := width - 1; i >= 0; i-- {
		out = append(out, byte(v>>(8*i)))
	}
	return out
}

// Slice returns a copy of the n bytes from the offset at on.
func Slice(b []byte, at, n int) ([]byte, bool) {
	if !inside(b, at, n) {
		return nil, false
	}
	return slices.Clone(b[at : at+n]), true
}

// Checksum returns the checksum of the Internet.
func Checksum(b []byte) int {
	var sum uint64
	for i, x := range b {
		if i%2 == 0 {
			sum += uint64(x) << 8
		} else {
			sum += uint64(x)
		}
	}
	for sum > 65535 {
		sum = sum&65535 + sum>>16
	}
	return int(65535 - sum)
}

// Equal reports whether a and b have the same bytes.
func Equal(a, b []byte) bool { return bytes.Equal(a, b) }

// Compare returns -1, 0 or 1 by the lexicographic order of bytes.
func Compare(a, b []byte) int { return bytes.Compare(a, b) }

// Hex returns two digits for each byte.
func Hex(b []byte) string {
	out := make([]byte, 0, 2*len(b))
	for _, x := range b {
		out = append(out, digits[x>>4], digits[x&15])
	}
	return string(out)
}

// Unhex returns the bytes that a text of Hex stands for; capital letters are accepted.
func Unhex(text string) ([]byte, api.Errno) {
	if len(text)%2 != 0 {
		return nil, api.ErrLength
	}
	out := make([]byte, 0, len(text)/2)
	for i := 0; i < len(text); i += 2 {
		high, low := digit(text[i]), digit(text[i+1])
		if high < 0 || low < 0 {
			return nil, api.ErrSyntax
		}
		out = append(out, byte(high<<4|low))
	}
	return out, api.OK
}

func isWidth(width int) bool { return 1 <= width && width <= 8 }

// inside reports whether b has n bytes from the offset at on.
func inside(b []byte, at, n int) bool {
	// The sum of at and n could overflow; the difference cannot.
	return at >= 0 && n >= 0 && n <= len(b)-at
}

// digit returns the value of a hexadecimal digit, -1 for another byte.
func digit(c byte) int {
	if 'A' <= c && c <= 'F' {
		c += 'a' - 'A'
	}
	return strings.IndexByte(digits, c)
}
