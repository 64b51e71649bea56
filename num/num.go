// Package num is layer 1: numbers and texts as bytes, each in one way only (shared/doc/01-num.md).
package num

import (
	"iter"
	"slices"

	"telemeter/api"
)

const (
	perByte   = 7    // binary digits of a number in one byte
	more      = 0x80 // added to a byte behind which there is another one
	mostBytes = 10   // of a number: 64 digits, seven a byte
)

// Put is a number as bytes, seven binary digits a byte, the least ones first.
func Put(n uint64) []byte {
	var b []byte
	for c := range laid(n) {
		b = append(b, c)
	}
	return b
}

// laid tells Put's bytes, first to last.
func laid(n uint64) iter.Seq[byte] {
	return func(yield func(byte) bool) {
		rest := n // a copy, so that each walk begins with the whole number
		for rest >= more {
			if !yield(byte(rest%more) + more) {
				return
			}
			rest >>= perByte
		}
		yield(byte(rest))
	}
}

// Get is the number whose bytes stand at a place, and the place behind them.
func Get(b []byte, at int) (uint64, int, api.Errno) {
	if at < 0 || at > len(b) {
		return 0, 0, api.ErrArg
	}
	n, size := uint64(0), 0
	e := api.ErrShort // what it stays, if the bytes end ahead of either case
digits:
	for c := range slices.Values(b[at:]) {
		n |= uint64(c%more) << (perByte * size)
		size++
		switch {
		case c < more && endsShortest(c, size):
			e = api.OK
			break digits
		case c < more || size == mostBytes:
			e = api.ErrForm
			break digits
		}
	}
	if e != api.OK {
		return 0, 0, e
	}
	return n, at + size, api.OK
}

// endsShortest: may a number's bytes, size of them, end with last? Put ends none of several with
// 0, which would add nothing, and has but one digit left for the tenth.
func endsShortest(last byte, size int) bool {
	return size == 1 || last == 1 || last > 1 && size < mostBytes
}

// Zig is a signed number as an unsigned one: near 0 there is near 0 here, so that few bytes do.
func Zig(n int) uint64 {
	if n < 0 {
		return 2*uint64(-(n+1)) + 1 // n+1 first: the least number has no opposite
	}
	return 2 * uint64(n)
}

// Zag is the way back from Zig.
func Zag(n uint64) int {
	if n%2 == 1 {
		return -int(n/2) - 1
	}
	return int(n / 2)
}

// PutText is a text with its length ahead.
func PutText(s string) []byte {
	return append(Put(uint64(len(s))), s...)
}

// GetText is the text at a place, if it has so many bytes at most, and the place behind it.
func GetText(b []byte, at, most int) (string, int, api.Errno) {
	n, from, e := Get(b, at)
	if e != api.OK {
		return "", 0, e
	}
	if most < 0 || n > uint64(most) {
		return "", 0, api.ErrLong
	}
	if n > uint64(len(b)-from) {
		return "", 0, api.ErrShort
	}
	to := from + int(n)
	return string(b[from:to]), to, api.OK
}
