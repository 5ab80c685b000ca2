// Package tuple is layer 1: see shared/doc/01-tuple.md.
package tuple

import (
	"math"
	"math/bits"
	"strings"

	"gloss/api"
)

// The form of a number from 0 on. That of a number below 0 is the form of its
// complement with every byte taken from 255, so one way of writing and one way
// of reading are enough for both.
const (
	zero    = 128                  // the byte of 0
	near    = 112                  // numbers below it are one byte
	wide    = zero + near - 1      // the first byte of a longer number is so much more than how many bytes follow
	maxWide = 8                    // at most so many bytes follow
	far     = math.MaxInt64 - near // the greatest number that the following bytes may tell
)

// What stands in a text behind a 0.
const (
	stuffed = 255 // the 0 is one of the text's own bytes
	ended   = 1   // the text is at its end
)

// Cursor goes over bytes.
type Cursor struct{ rest string }

// Nums answers the bytes of numbers, one behind the other.
func Nums(list ...int) string {
	out := make([]byte, 0, len(list))
	for _, n := range list {
		out = appendNum(out, n)
	}
	return string(out)
}

// appendNum puts the bytes of a number behind others.
func appendNum(out []byte, n int) []byte {
	flip := byte(0)
	if n < 0 {
		n, flip = ^n, 255
	}
	if n < near {
		return append(out, byte(zero+n)^flip)
	}
	m := uint64(n - near)
	k := width(m)
	out = append(out, byte(wide+k)^flip)
	for i := k - 1; i >= 0; i-- {
		out = append(out, byte(m>>(8*i))^flip)
	}
	return out
}

// width answers how many bytes a number needs, at least one.
func width(m uint64) int {
	return max(1, (bits.Len64(m)+7)/8)
}

// Text answers a text's bytes: no 0 in it stands without a 255 behind it.
func Text(s string) string {
	return strings.ReplaceAll(s, "\x00", "\x00\xff") + "\x00\x01"
}

// Block answers how many bytes there are, and the bytes.
func Block(s string) string {
	return Nums(len(s)) + s
}

// At answers a cursor at the beginning of the bytes.
func At(s string) *Cursor {
	return &Cursor{rest: s}
}

// Num goes over a number.
func (c *Cursor) Num() (int, api.Errno) { return goOver(c, readNum) }

// Count goes over a number from 0 on.
func (c *Cursor) Count() (int, api.Errno) { return goOver(c, readCount) }

// Text goes over a text.
func (c *Cursor) Text() (string, api.Errno) { return goOver(c, readText) }

// Block goes over as many bytes as are told.
func (c *Cursor) Block() (string, api.Errno) { return goOver(c, readBlock) }

// Rest answers the bytes that are left.
func (c *Cursor) Rest() string {
	if c == nil {
		return ""
	}
	return c.rest
}

// End tells whether nothing is left.
func (c *Cursor) End() api.Errno {
	switch {
	case c == nil:
		return api.ErrInput
	case c.rest != "":
		return api.ErrTail
	}
	return api.OK
}

// goOver answers what read finds at the cursor, and leaves the cursor behind it. A read
// answers an item and in how many bytes it is written: none of them beside an error.
func goOver[T any](c *Cursor, read func(s string) (T, int, api.Errno)) (T, api.Errno) {
	if c == nil {
		var none T
		return none, api.ErrInput
	}
	item, size, e := read(c.rest)
	c.rest = c.rest[size:]
	return item, e
}

// readNum reads a number.
func readNum(s string) (n, size int, e api.Errno) {
	if s == "" {
		return 0, 0, api.ErrShort
	}
	flip := byte(0)
	if s[0] < zero {
		flip = 255
	}
	n, size = int(s[0]^flip)-zero, 1
	if n >= near {
		n, size, e = readWide(s, flip)
	}
	if e == api.OK && flip != 0 {
		n = ^n
	}
	return n, size, e
}

// readWide reads a number of more than one byte, without the flip that its bytes have.
func readWide(s string, flip byte) (n, size int, e api.Errno) {
	k := int(s[0]^flip) - wide
	if k > maxWide {
		return 0, 0, api.ErrForm
	}
	if len(s)-1 < k {
		return 0, 0, api.ErrShort
	}
	m := uint64(0)
	for i := 1; i <= k; i++ {
		m = m<<8 | uint64(s[i]^flip)
	}
	if width(m) < k || m > far {
		return 0, 0, api.ErrForm
	}
	return int(m) + near, 1 + k, api.OK
}

// readCount reads a number from 0 on.
func readCount(s string) (n, size int, e api.Errno) {
	n, size, e = readNum(s)
	if n < 0 {
		return 0, 0, api.ErrForm
	}
	return n, size, e
}

// readText reads a text.
func readText(s string) (text string, size int, e api.Errno) {
	var out []byte
	for i := 0; i < len(s); i++ {
		if s[i] != 0 {
			out = append(out, s[i])
			continue
		}
		i++
		if i == len(s) {
			break
		}
		switch s[i] {
		case stuffed:
			out = append(out, 0)
		case ended:
			return string(out), i + 1, api.OK
		default:
			return "", 0, api.ErrForm
		}
	}
	return "", 0, api.ErrShort
}

// readBlock reads a block.
func readBlock(s string) (block string, size int, e api.Errno) {
	n, size, e := readCount(s)
	if e != api.OK {
		return "", 0, e
	}
	if len(s)-size < n {
		return "", 0, api.ErrShort
	}
	return s[size : size+n], size + n, api.OK
}
