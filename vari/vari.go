// Package vari is layer 1: numbers as bytes (see shared/doc/01-vari.md).
package vari

import (
	"iter"

	"moorings/api"
)

// base is the base of a number's digits; all digits but the last one have it added.
const base = 128

// isNumber tells whether n is a number that has bytes.
func isNumber(n int) bool { return n >= 0 && n <= api.MaxNum }

// Put are a number's bytes; there are none if n is no number.
func Put(n int) []byte {
	if !isNumber(n) {
		return nil
	}
	var b []byte
	for n >= base {
		b = append(b, byte(n%base)+base)
		n /= base
	}
	return append(b, byte(n))
}

// Get is the number that stands at a place, and the place behind it; 0 and -1 if none stands there.
func Get(b []byte, at int) (int, int) {
	if at < 0 {
		return 0, -1
	}
	n, unit := 0, 1
	// A digit whose unit is above MaxNum is in no number's bytes; ending there keeps unit and n from wrapping around.
digits:
	for i := at; i < len(b) && unit <= api.MaxNum; i++ {
		n += int(b[i]%base) * unit
		unit *= base
		switch {
		case b[i] >= base:
			continue digits
		case b[i] == 0 && i > at, n > api.MaxNum:
			break digits
		}
		return n, i + 1
	}
	return 0, -1
}

// All are the bytes of several numbers, one behind the other.
func All(l ...int) ([]byte, bool) {
	if len(l) > api.MaxList {
		return nil, false
	}
	var b []byte
	for _, n := range l {
		if !isNumber(n) {
			return nil, false
		}
		b = append(b, Put(n)...)
	}
	return b, true
}

// Read are the numbers of bytes.
func Read(b []byte) ([]int, bool) {
	var l []int
	end := 0
	for n, next := range numbers(b) {
		if len(l) == api.MaxList {
			return nil, false
		}
		l = append(l, n)
		end = next
	}
	if end < len(b) {
		return nil, false
	}
	return l, true
}

// numbers hands on the numbers that stand one behind the other from the first byte on, each with the place behind it, till one is none.
func numbers(b []byte) iter.Seq2[int, int] {
	return func(yield func(int, int) bool) {
		n, end := Get(b, 0)
		for end >= 0 && yield(n, end) {
			n, end = Get(b, end)
		}
	}
}
