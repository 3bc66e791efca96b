// Package field is layer 1: see shared/doc/01-field.md.
package field

import (
	"slices"
	"strings"

	"skerry/api"
)

// Get answers the number of width bytes at a place, little end first.
func Get(b []byte, at, width int) (int, api.Errno) {
	if e := checkNumber(b, at, width); e != api.OK {
		return 0, e
	}
	// The greatest byte stands last, so that going backwards meets the digits as they are written.
	v := 0
	for _, c := range slices.Backward(b[at : at+width]) {
		v = v<<8 | int(c)
	}
	return v, api.OK
}

// Put answers bytes like b in which the number v stands at a place.
func Put(b []byte, at, width, v int) ([]byte, api.Errno) {
	if e := checkNumber(b, at, width); e != api.OK {
		return nil, e
	}
	if v < 0 || v>>(8*width) != 0 {
		return nil, api.ErrValue
	}
	out := renew(b)
	part := out[at : at+width]
	for i := range slices.Backward(part) {
		part[i] = byte(v >> (8 * i))
	}
	return out, api.OK
}

// Text answers the text of at most n bytes at a place.
func Text(b []byte, at, n int) (string, api.Errno) {
	if e := checkPart(b, at, n); e != api.OK {
		return "", e
	}
	part := b[at : at+n]
	end := seek(part, func(c byte) bool { return c == 0 })
	if !allZero(part[end:]) {
		return "", api.ErrForm
	}
	return string(part[:end]), api.OK
}

// PutText answers bytes like b in which the text s fills n bytes at a place.
func PutText(b []byte, at, n int, s string) ([]byte, api.Errno) {
	if e := checkPart(b, at, n); e != api.OK {
		return nil, e
	}
	if len(s) > n {
		return nil, api.ErrLarge
	}
	if strings.IndexByte(s, 0) >= 0 {
		return nil, api.ErrValue
	}
	out := renew(b)
	part := out[at : at+n]
	clear(part[copy(part, s):])
	return out, api.OK
}

// Zero answers whether n bytes at a place are all 0.
func Zero(b []byte, at, n int) (bool, api.Errno) {
	if e := checkPart(b, at, n); e != api.OK {
		return false, e
	}
	return allZero(b[at : at+n]), api.OK
}

func checkNumber(b []byte, at, width int) api.Errno {
	switch width {
	case 1, 2, 4:
		return checkPart(b, at, width)
	}
	return api.ErrArg
}

// checkPart takes at from the length instead of adding n to it: that sum could wrap.
func checkPart(b []byte, at, n int) api.Errno {
	if n < 0 {
		return api.ErrArg
	}
	if at < 0 || len(b)-at < n {
		return api.ErrRange
	}
	return api.OK
}

// seek answers the place of the first byte that is wanted, or the length, so that what stands ahead of it is a piece of b either way.
func seek(b []byte, wanted func(byte) bool) int {
	for i, c := range b {
		if wanted(c) {
			return i
		}
	}
	return len(b)
}

func allZero(b []byte) bool {
	return seek(b, func(c byte) bool { return c != 0 }) == len(b)
}

// renew makes just as much room as b has bytes: slices.Clone would hand an empty b's own memory on.
func renew(b []byte) []byte {
	out := make([]byte, len(b))
	copy(out, b)
	return out
}
