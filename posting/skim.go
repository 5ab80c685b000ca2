package posting

import (
	"gloss/api"
	"gloss/bitpack"
	"gloss/tuple"
)

// tooMany tells whether a list of a kind, which stands at the beginning of bytes, claims more numbers than one of postings may
// have: of places none but the first of a posting is told as 0, so each other one takes a bit at least.
func tooMany(kind int, s string) bool {
	count, _ := tuple.At(s).Count()
	most := api.MaxDocs
	if kind == places {
		most += 8 * len(s)
	}
	return count > most
}

// skim answers what bitpack.Read does, but for the numbers: few bytes may be so many zeros that there is no room for them, so
// each block is read as a list of its own and let go.
func skim(s string) (none []int, size int, e api.Errno) {
	c := tuple.At(s)
	count, e := c.Count()
	left := c.Rest()
	for e == api.OK && count > 0 {
		n := min(count, api.Block)
		end := blockEnd(left, n)
		_, _, e = bitpack.Read(tuple.Nums(n) + left[:end])
		count, left = count-n, left[end:]
	}
	if e != api.OK {
		return nil, 0, e
	}
	return nil, len(s) - len(left), api.OK
}

// blockEnd answers where a block of so many numbers ends by its width, its first byte; where the bytes end, if that is ahead.
func blockEnd(s string, count int) int {
	if s == "" {
		return 0
	}
	return min(len(s), 1+(count*int(s[0])+7)/8)
}
