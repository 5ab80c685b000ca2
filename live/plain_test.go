package live_test

import (
	"fmt"
	"math"
	"math/rand/v2"
	"slices"
	"testing"

	"gloss/api"
	"gloss/live"
	"gloss/tuple"
)

// plain is a set as the chapter's words stand: of each document whether it is deleted.
type plain []bool

// kill deletes a document, and tells whether it was one that lived.
func (p plain) kill(doc int) bool {
	lives := p.live(doc)
	if lives {
		p[doc] = true
	}
	return lives
}

// live tells whether a number is a document's that lives.
func (p plain) live(doc int) bool {
	for i, gone := range p {
		if i == doc {
			return !gone
		}
	}
	return false
}

// left answers how many live.
func (p plain) left() int {
	left := 0
	for _, gone := range p {
		if !gone {
			left++
		}
	}
	return left
}

// pack answers the number of documents, and the bits of each eight as the sum of what each of them counts.
func (p plain) pack() string {
	out := []byte(tuple.Nums(len(p)))
	for eight := range slices.Chunk(p, 8) {
		sum, counts := 0, 1
		for _, gone := range eight {
			if gone {
				sum += counts
			}
			counts *= 2
		}
		out = append(out, byte(sum))
	}
	return string(out)
}

// plainRead answers the set that bytes are: a number, and bits one by one.
func plainRead(s string) (plain, api.Errno) {
	c := tuple.At(s)
	n, e := c.Count()
	if e != api.OK {
		return nil, e
	}
	if n > 1048576 {
		return nil, api.ErrLimit
	}
	var row []bool
	for _, b := range []byte(c.Rest()) {
		for range 8 {
			row = append(row, b%2 == 1)
			b /= 2
		}
	}
	switch {
	case len(row) < n:
		return nil, api.ErrShort
	case len(row) >= n+8:
		return nil, api.ErrTail
	case slices.Contains(row[n:], true):
		return nil, api.ErrForm
	}
	return plain(row[:n]), api.OK
}

// pair is a set, and a plain one that goes along with it.
type pair struct {
	set   *live.Set
	plain plain
	name  string
}

// pairOf answers a pair of so many documents, all of which live.
func pairOf(t *testing.T, n int) *pair {
	t.Helper()
	set, e := live.New(n)
	if e != api.OK || set == nil {
		t.Fatalf("New(%d): %v, error %d", n, set, e)
	}
	return &pair{set: set, plain: make(plain, n), name: fmt.Sprint("a set of ", n)}
}

// pairBut answers a pair of so many documents, some of which are deleted.
func pairBut(t *testing.T, n int, isGone func(doc int) bool) *pair {
	t.Helper()
	p := pairOf(t, n)
	for doc := range n {
		if isGone(doc) {
			p.set.Kill(doc)
			p.plain[doc] = true
		}
	}
	return p
}

// with answers a pair of another set that should be alike.
func (p *pair) with(set *live.Set, name string) *pair {
	return &pair{set: set, plain: slices.Clone(p.plain), name: p.name + ", " + name}
}

// read answers a pair of the set that is read of what this one is packed as.
func (p *pair) read(t *testing.T) *pair {
	t.Helper()
	set, e := live.Read(p.set.Pack())
	if e != api.OK || set == nil {
		t.Fatalf("%s: Read of Pack: %v, error %d", p.name, set, e)
	}
	return p.with(set, "read back")
}

// kill deletes a document of both, and holds what is answered, and what is told of the document and counted behind it.
func (p *pair) kill(t *testing.T, doc int) {
	t.Helper()
	want := p.plain.kill(doc)
	if got := p.set.Kill(doc); got != want {
		t.Errorf("%s: Kill(%d) = %v, want %v", p.name, doc, got, want)
	}
	p.asks(t, doc)
	p.counts(t)
}

// asks tells of a document of which Live doesn't answer what it should.
func (p *pair) asks(t *testing.T, doc int) {
	t.Helper()
	if got, want := p.set.Live(doc), p.plain.live(doc); got != want {
		t.Errorf("%s: Live(%d) = %v, want %v", p.name, doc, got, want)
	}
}

// counts tells of a set that isn't of so many documents, or of which other ones live.
func (p *pair) counts(t *testing.T) {
	t.Helper()
	if all, left := p.set.Count(); all != len(p.plain) || left != p.plain.left() {
		t.Errorf("%s: Count = %d, %d; want %d, %d", p.name, all, left, len(p.plain), p.plain.left())
	}
}

// alike tells of a set that isn't as the plain one, in any answer.
func (p *pair) alike(t *testing.T) {
	t.Helper()
	p.counts(t)
	for doc, gone := range p.plain {
		if p.set.Live(doc) == gone {
			t.Fatalf("%s: Live(%d) = %v", p.name, doc, gone)
		}
	}
	for _, doc := range strangers(len(p.plain)) {
		p.asks(t, doc)
	}
	if got, want := p.set.Pack(), p.plain.pack(); got != want {
		t.Errorf("%s: Pack = % .80x, want % .80x", p.name, got, want)
	}
}

// sizes are numbers of documents on both sides of whole bytes, and of where the number ahead grows.
var sizes = []int{0, 1, 2, 6, 7, 8, 9, 10, 15, 16, 17, 23, 24, 25, 31, 32, 33, 63, 64, 65, 111, 112, 113, 127, 128, 129, 255, 256, 257, 367, 368, 369, 1000}

// strangers are numbers of no document of so many: the next ones on both sides, those whose bits would stand in the last byte or
// the byte beside it, and far ones, among them those that are some document's but for their high bits.
func strangers(n int) []int {
	list := []int{math.MinInt, math.MinInt + 1, math.MinInt + 8, math.MinInt32, -1 << 62, -1 << 40, -1<<32 + 1, -n - 1, -n}
	list = append(list, -65, -64, -63, -17, -16, -15, -9, -8, -7, -2, -1)
	for doc := n; doc < n+18; doc++ {
		list = append(list, doc)
	}
	list = append(list, 2*n, n+64, n+256, api.MaxDocs, api.MaxDocs+1, 1<<31-1, 1<<31, 1<<32, 1<<32+1, 1<<35, 1<<62, 1<<62+1, math.MaxInt-7, math.MaxInt-1, math.MaxInt)
	return slices.DeleteFunc(list, func(doc int) bool { return 0 <= doc && doc < n })
}

// picks are ways to tell which documents of so many are deleted.
func picks(n int) map[string]func(doc int) bool {
	r := rand.New(rand.NewPCG(15, uint64(n)))
	return map[string]func(doc int) bool{
		"none":            func(doc int) bool { return false },
		"all":             func(doc int) bool { return true },
		"the first":       func(doc int) bool { return doc == 0 },
		"the last":        func(doc int) bool { return doc == n-1 },
		"all but the one": func(doc int) bool { return doc != n/2 },
		"even ones":       func(doc int) bool { return doc%2 == 0 },
		"odd ones":        func(doc int) bool { return doc%2 == 1 },
		"the last byte":   func(doc int) bool { return doc >= (n-1)/8*8 },
		"the first byte":  func(doc int) bool { return doc < 8 },
		"each eighth":     func(doc int) bool { return doc%8 == 7 },
		"drawn ones":      func(doc int) bool { return r.IntN(2) == 0 },
		"few drawn ones":  func(doc int) bool { return r.IntN(9) == 0 },
	}
}

// isRead tells of bytes that Read doesn't answer as they are read bit by bit.
func isRead(t *testing.T, s string) {
	t.Helper()
	want, wantE := plainRead(s)
	if wantE != api.OK {
		refused(t, s, wantE)
		return
	}
	set, e := live.Read(s)
	if e != api.OK || set == nil {
		t.Fatalf("Read(% .80x) = %v, error %d; want %v", s, set != nil, e, want)
	}
	p := &pair{set: set, plain: want, name: fmt.Sprintf("% .80x", s)}
	p.counts(t)
	if got := set.Pack(); got != s {
		t.Fatalf("Read(% .80x) is packed as % .80x", s, got)
	}
	for doc := -1; doc <= len(want); doc++ {
		p.asks(t, doc)
	}
}

// refused tells of bytes that Read doesn't refuse with just this error.
func refused(t *testing.T, s string, want api.Errno) {
	t.Helper()
	if set, e := live.Read(s); set != nil || e != want {
		t.Fatalf("Read(% .80x) = %v, error %d; want error %d", s, set != nil, e, want)
	}
}
