// Package octets is layer 1: it writes numbers and texts as bytes and reads them strictly (see shared/doc/01-octets.md).
//
// No function appends to its argument in place: the room behind b may belong to an earlier result, which must not change.
package octets

import (
	"slices"

	"shardqueue/api"
)

const (
	maxSize   = 6              // bytes of a number of a fixed size
	maxGroups = 6              // groups of a number of a variable size
	groupBits = 7              // bits of a group
	more      = 1 << groupBits // is added to a group that another one follows
	maxLength = 255            // of a text: its length is one byte
)

// Put returns b followed by n as size bytes, the highest one first.
func Put(b []byte, n, size int) ([]byte, api.Errno) {
	if !isSize(size) || n < 0 || n >= 1<<(8*size) {
		return nil, api.ErrRange
	}
	form := make([]byte, size)
	for i := range form {
		form[size-1-i] = byte(n >> (8 * i))
	}
	return slices.Concat(b, form), api.OK
}

// Get returns the number that size bytes of b stand for, from at on.
func Get(b []byte, at, size int) (int, api.Errno) {
	if !isSize(size) || at < 0 {
		return 0, api.ErrRange
	}
	// Not at+size > len(b): that sum may overflow.
	if at > len(b)-size {
		return 0, api.ErrSyntax
	}
	n := 0
	for _, octet := range b[at : at+size] {
		n = n<<8 | int(octet)
	}
	return n, api.OK
}

// PutVar returns b followed by n in as few groups of seven bits as possible, the lowest group first.
func PutVar(b []byte, n int) ([]byte, api.Errno) {
	if n < 0 || n > api.MaxNumber {
		return nil, api.ErrRange
	}
	var form []byte
	for ; n >= more; n >>= groupBits {
		form = append(form, byte(n%more+more))
	}
	return slices.Concat(b, form, []byte{byte(n)}), api.OK
}

// GetVar reads a number in groups of seven bits from at on, and returns it and the position after it. It accepts only what PutVar writes.
func GetVar(b []byte, at int) (n, next int, e api.Errno) {
	if at < 0 {
		return 0, 0, api.ErrRange
	}
	rest := b[min(at, len(b)):]
	for i := range maxGroups {
		if i == len(rest) {
			break
		}
		group := int(rest[i])
		n += group % more << (groupBits * i)
		if group >= more {
			continue
		}
		if i > 0 && group == 0 || n > api.MaxNumber {
			break
		}
		return n, at + i + 1, api.OK
	}
	return 0, 0, api.ErrSyntax
}

// PutText returns b followed by one byte with the length of s, and s. The text must not be longer than most.
func PutText(b []byte, s string, most int) ([]byte, api.Errno) {
	if !isLength(most) {
		return nil, api.ErrRange
	}
	if len(s) > most {
		return nil, api.ErrTooLong
	}
	return slices.Concat(b, []byte{byte(len(s))}, []byte(s)), api.OK
}

// GetText reads a text from at on, and returns it and the position after it. The text must not be longer than most.
func GetText(b []byte, at, most int) (s string, next int, e api.Errno) {
	if !isLength(most) || at < 0 {
		return "", 0, api.ErrRange
	}
	if at >= len(b) {
		return "", 0, api.ErrSyntax
	}
	length, begin := int(b[at]), at+1
	if length > most {
		return "", 0, api.ErrTooLong
	}
	if length > len(b)-begin {
		return "", 0, api.ErrSyntax
	}
	end := begin + length
	return string(b[begin:end]), end, api.OK
}

func isSize(n int) bool {
	return n >= 1 && n <= maxSize
}

func isLength(n int) bool {
	return n >= 0 && n <= maxLength
}
