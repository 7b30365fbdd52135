// Package vlq is layer 1: see shared/doc/01-vlq.md.
package vlq

import (
	"math"
	"strings"

	"hogshead/api"
)

// A byte has groupBits bits of the number; goesOn tells that another byte follows.
const (
	groupBits = 7
	goesOn    = 1 << groupBits
	group     = goesOn - 1
)

// maxBytes is how many bytes a number has at most: 64 bits in groups of seven.
const maxBytes = (64 + groupBits - 1) / groupBits

// Num are a number's bytes.
func Num(v uint64) string {
	var b [maxBytes]byte
	at := maxBytes - 1
	b[at] = byte(v & group)
next:
	v >>= groupBits
	if v > 0 {
		at--
		b[at] = byte(v&group) | goesOn
		goto next
	}
	return string(b[at:])
}

// TakeNum takes one.
func TakeNum(s string) (uint64, string, api.Errno) {
	if s == "" {
		return 0, "", api.ErrMore
	}
	// A highest group of 0 would give a number a second form.
	if s[0] == goesOn {
		return 0, "", api.ErrForm
	}
	var v uint64
	at := 0
next:
	if at == len(s) {
		return 0, "", api.ErrMore
	}
	// Asked ahead of the shift, which would lose the bits that are too many.
	if v > math.MaxUint64>>groupBits {
		return 0, "", api.ErrForm
	}
	v = v<<groupBits | uint64(s[at]&group)
	at++
	if s[at-1] >= goesOn {
		goto next
	}
	return v, s[at:], api.OK
}

// Text are a text's bytes.
func Text(t string) string { return Num(uint64(len(t))) + t }

// TakeText takes one.
func TakeText(s string, most int) (string, string, api.Errno) {
	n, rest, e := TakeNum(s)
	switch {
	case e != api.OK:
		return "", "", e
	case above(n, most):
		return "", "", api.ErrBig
	case above(n, len(rest)):
		return "", "", api.ErrMore
	}
	return rest[:n], rest[n:], api.OK
}

// Row are a row's bytes.
func Row(l []string) string {
	var b strings.Builder
	b.WriteString(Num(uint64(len(l))))
	for _, t := range l {
		b.WriteString(Num(uint64(len(t))))
		b.WriteString(t)
	}
	return b.String()
}

// TakeRow takes one.
func TakeRow(s string, many, most int) ([]string, string, api.Errno) {
	n, rest, e := TakeNum(s)
	switch {
	case e != api.OK:
		return nil, "", e
	case above(n, many):
		return nil, "", api.ErrBig
	}
	return takeEach(rest, n, func(s string) (string, string, api.Errno) {
		return TakeText(s, most)
	})
}

// takeEach takes n things, one behind the other. It makes no room ahead: n is only what the bytes say of themselves.
func takeEach[T any](s string, n uint64, take func(string) (T, string, api.Errno)) ([]T, string, api.Errno) {
	var l []T
	for range n {
		x, rest, e := take(s)
		if e != api.OK {
			return nil, "", e
		}
		l, s = append(l, x), rest
	}
	return l, s, api.OK
}

// above: is n above most, as whole numbers? Below 0 there is no n, so each is above it.
func above(n uint64, most int) bool { return most < 0 || n > uint64(most) }
