package spans_test

import (
	"fmt"
	"math"

	"gloss/api"
)

// span is a row of numbers, from the first to the last.
type span struct{ first, last int }

// characters are all that are, by the lengths of their bytes and by what lies between.
var characters = []span{{0, 0x7f}, {0x80, 0x7ff}, {0x800, 0xd7ff}, {0xe000, 0xffff}, {0x10000, 0x10ffff}}

// edges are numbers at the ends of all that characters' bytes change by, among and beside them, and numbers within.
var edges = []int{
	-1, 0, 1, 0x3f, 0x40, 'a', 'z', 0x7e, 0x7f, 0x80, 0x81, 0xbe, 0xbf, 0xc0, 0xe9, 0xff, 0x100, 0x3ff, 0x400, 0x7be, 0x7bf, 0x7c0, 0x7fe,
	0x7ff, 0x800, 0x801, 0x83f, 0x840, 0xffe, 0xfff, 0x1000, 0x1001, 0x103f, 0x1040, 0x1fff, 0x2000, 0x20ac, 0x4e2d, 0xbfff, 0xc000, 0xcfff,
	0xd000, 0xd001, 0xd7be, 0xd7bf, 0xd7c0, 0xd7fe, 0xd7ff, 0xd800, 0xd801, 0xdbff, 0xdc00, 0xdffe, 0xdfff, 0xe000, 0xe001, 0xe03f, 0xe040,
	0xefff, 0xf000, 0xfffd, 0xfffe, 0xffff, 0x10000, 0x10001, 0x1003f, 0x10040, 0x10fff, 0x11000, 0x12345, 0x1f98a, 0x3fffe, 0x3ffff, 0x40000,
	0x40001, 0x7ffff, 0x80000, 0xfefff, 0xffffe, 0xfffff, 0x100000, 0x100001, 0x10efff, 0x10f000, 0x10ffbf, 0x10ffc0, 0x10fffe, 0x10ffff,
	0x110000,
}

// farNumbers are none of characters, as small and as large as there are, and such as have a character's lowest bits.
var farNumbers = []int{
	math.MinInt, math.MinInt + 1, math.MinInt + 'a', math.MinInt32, -1 << 40, -0x110000, -0x10ffff, -0xd800, -0x80, -'a', -2,
	0x110001, 0x1fffff, 0x200000, 1<<31 - 1, 1 << 31, 1 << 32, 1<<32 + 'a', 1 << 62, math.MaxInt - 1, math.MaxInt,
}

// charactersIn answers how many characters there are from lo to hi.
func charactersIn(lo, hi int) int {
	n := 0
	for _, s := range characters {
		// Held against each other first: of numbers far apart a difference may be none.
		if first, last := max(lo, s.first), min(hi, s.last); first <= last {
			n += last - first + 1
		}
	}
	return n
}

// isCharacter tells whether a number is one of the characters from lo to hi.
func isCharacter(c, lo, hi int) bool {
	return lo <= c && c <= hi && charactersIn(c, c) == 1
}

// eachCharacter goes over the characters from lo to hi, rising.
func eachCharacter(lo, hi int, do func(c int)) {
	for _, s := range characters {
		for c := max(lo, s.first); c <= min(hi, s.last); c++ {
			do(c)
		}
	}
}

// written answers a number in the bytes that chapter 5 tells of characters.
func written(c int) string {
	switch {
	case c < 0x80:
		return string([]byte{byte(c)})
	case c < 0x800:
		return string([]byte{byte(0xc0 + c/0x40), byte(0x80 + c%0x40)})
	case c < 0x10000:
		return string([]byte{byte(0xe0 + c/0x1000), byte(0x80 + c%0x1000/0x40), byte(0x80 + c%0x40)})
	}
	return string([]byte{byte(0xf0 + c/0x40000), byte(0x80 + c/0x1000%0x40), byte(0x80 + c/0x40%0x40), byte(0x80 + c%0x40)})
}

// read answers the number that the bytes of one character tell.
func read(s string) int {
	lead := [...]int{0, 0, 0xc0, 0xe0, 0xf0}
	c := int(s[0]) - lead[len(s)]
	for i := 1; i < len(s); i++ {
		c = c*0x40 + int(s[i]) - 0x80
	}
	return c
}

// holds tells whether a row holds a text.
func holds(row []api.Range, s string) bool {
	for i, r := range row {
		if len(row) != len(s) || int(s[i]) < r.Lo || r.Hi < int(s[i]) {
			return false
		}
	}
	return len(row) == len(s)
}

// timesHeld answers how many of the rows hold a text.
func timesHeld(rows [][]api.Range, s string) int {
	n := 0
	for _, row := range rows {
		if holds(row, s) {
			n++
		}
	}
	return n
}

// eachText goes over the texts that a row holds.
func eachText(row []api.Range, do func(s string)) {
	var more func(ahead []byte)
	more = func(ahead []byte) {
		if len(ahead) == len(row) {
			do(string(ahead))
			return
		}
		for c := row[len(ahead)].Lo; c <= row[len(ahead)].Hi; c++ {
			more(append(ahead, byte(c)))
		}
	}
	more(make([]byte, 0, len(row)))
}

// behind answers of how many bytes a character is that begins with one, and which may be the second of them; 0: none
// begins so.
func behind(first int) (size int, second api.Range) {
	switch {
	case first < 0x80:
		return 1, api.Range{}
	case first < 0xc2:
		return 0, api.Range{}
	case first < 0xe0:
		return 2, api.Range{Lo: 0x80, Hi: 0xbf}
	case first == 0xe0:
		return 3, api.Range{Lo: 0xa0, Hi: 0xbf}
	case first == 0xed:
		return 3, api.Range{Lo: 0x80, Hi: 0x9f}
	case first < 0xf0:
		return 3, api.Range{Lo: 0x80, Hi: 0xbf}
	case first == 0xf0:
		return 4, api.Range{Lo: 0x90, Hi: 0xbf}
	case first < 0xf4:
		return 4, api.Range{Lo: 0x80, Hi: 0xbf}
	case first == 0xf4:
		return 4, api.Range{Lo: 0x80, Hi: 0x8f}
	}
	return 0, api.Range{}
}

// noRow answers why a row isn't one that holds characters alone; "" if it is.
func noRow(row []api.Range) string {
	if len(row) < 1 || len(row) > 4 {
		return fmt.Sprintf("%d ranges", len(row))
	}
	for i, r := range row {
		if r.Lo < 0 || r.Hi > 255 || r.Hi < r.Lo || i > 1 && (r.Lo < 0x80 || r.Hi > 0xbf) {
			return fmt.Sprintf("range %x", r)
		}
	}
	for first := row[0].Lo; first <= row[0].Hi; first++ {
		size, second := behind(first)
		if size != len(row) || size > 1 && (row[1].Lo < second.Lo || row[1].Hi > second.Hi) {
			return fmt.Sprintf("no characters by %x", first)
		}
	}
	return ""
}

// wrong answers why rows aren't those of the characters from lo to hi; "" if they are. Characters' texts stand in
// their order: what a row holds stands from its first text to its last one. So rows that hold characters alone, begin
// and end in the range, have no text in common and hold as many as the range has, hold just these.
func wrong(rows [][]api.Range, lo, hi int) string {
	if len(rows) > 20 {
		return fmt.Sprintf("%d rows", len(rows))
	}
	texts := 0
	for i, row := range rows {
		if why := noRow(row); why != "" {
			return fmt.Sprintf("row %x: %s", row, why)
		}
		first, last, held := "", "", 1
		for _, r := range row {
			first, last, held = first+string([]byte{byte(r.Lo)}), last+string([]byte{byte(r.Hi)}), held*(r.Hi-r.Lo+1)
		}
		if !isCharacter(read(first), lo, hi) || !isCharacter(read(last), lo, hi) {
			return fmt.Sprintf("row %x: from %x to %x", row, read(first), read(last))
		}
		for _, other := range rows[:i] {
			if meet(row, other) {
				return fmt.Sprintf("rows %x and %x hold the same text", other, row)
			}
		}
		texts += held
	}
	if want := charactersIn(lo, hi); texts != want {
		return fmt.Sprintf("%d texts, want %d", texts, want)
	}
	return ""
}

// meet tells whether there is a text that both rows hold.
func meet(a, b []api.Range) bool {
	if len(a) != len(b) {
		return false
	}
	for i := range a {
		if a[i].Hi < b[i].Lo || b[i].Hi < a[i].Lo {
			return false
		}
	}
	return true
}
