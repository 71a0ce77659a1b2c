// Package octet is layer 1: see shared/doc/01-octet.md.
package octet

import (
	"bytes"
	"strings"

	"crossway/api"
)

const (
	digits = "0123456789abcdef"
	most   = 8 // bytes of a uint64
)

// Join: bytes, one behind the other.
func Join(parts ...[]byte) []byte {
	size := 0
	for _, p := range parts {
		size += len(p)
	}
	out := make([]byte, 0, size)
	for _, p := range parts {
		out = append(out, p...)
	}
	return out
}

// Xor: the bits that are in just one.
func Xor(a, b []byte) ([]byte, api.Errno) {
	if len(a) != len(b) {
		return nil, api.ErrRange
	}
	out := make([]byte, len(a))
	for i := range out {
		out[i] = a[i] ^ b[i]
	}
	return out, api.OK
}

// Equal: are they the same?
func Equal(a, b []byte) bool { return bytes.Equal(a, b) }

// Num: the number of bytes.
func Num(b []byte) (uint64, api.Errno) {
	if len(b) > most {
		return 0, api.ErrRange
	}
	var n uint64
	for _, x := range b {
		n = n<<8 | uint64(x)
	}
	return n, api.OK
}

// Put: a number's bytes.
func Put(n uint64, size int) ([]byte, api.Errno) {
	if size < 0 || size > most {
		return nil, api.ErrRange
	}
	out := make([]byte, size)
	for i := size - 1; i >= 0; i-- {
		out[i] = byte(n)
		n >>= 8
	}
	if n != 0 { // what is left had no room
		return nil, api.ErrRange
	}
	return out, api.OK
}

// Hex: bytes' digits.
func Hex(b []byte) string {
	out := make([]byte, 0, 2*len(b))
	for _, x := range b {
		out = append(out, digits[x>>4], digits[x&15])
	}
	return string(out)
}

// Unhex: the bytes of digits.
func Unhex(s string) ([]byte, api.Errno) {
	if len(s)%2 != 0 {
		return nil, api.ErrForm
	}
	out := make([]byte, 0, len(s)/2)
	for i := 0; i < len(s); i += 2 {
		high := strings.IndexByte(digits, s[i])
		low := strings.IndexByte(digits, s[i+1])
		if high < 0 || low < 0 {
			return nil, api.ErrForm
		}
		out = append(out, byte(high<<4|low))
	}
	return out, api.OK
}
