package posting_test

import (
	"fmt"
	"math"
	"math/rand/v2"
	"slices"
	"testing"

	"gloss/api"
	"gloss/posting"
)

// 14.4: the chapter's example: of the documents 0 3 6 .. Advance to 4 stands at 6, to 5 then too.
func TestAdvance(t *testing.T) {
	c, e := posting.New(rowOf(0, 400, 3))
	if e != api.OK {
		t.Fatalf("New: error %d", e)
	}
	for i, step := range []struct{ to, doc int }{{4, 6}, {5, 6}, {6, 6}, {7, 9}, {9, 9}, {0, 9}, {-1, 9}, {math.MinInt, 9}, {600, 600}, {601, 603}, {1196, 1197}, {1197, 1197}, {1198, -1}, {0, -1}} {
		ok := c.Advance(step.to)
		p, there := c.Post()
		if ok != (step.doc >= 0) || there != ok || ok && p.Doc != step.doc || ok && !slices.Equal(p.At, []int{step.doc / 3}) {
			t.Errorf("step %d, Advance(%d): %v, Post = %v, %v; want %d", i, step.to, ok, p, there, step.doc)
		}
	}
}

// 14.4: a cursor ahead of the first posting, at each, and behind the last one.
func TestNext(t *testing.T) {
	for name, list := range lists() {
		p := pairOver(t, name, list)
		for range len(list) + 3 {
			p.goOn(t)
		}
		for _, doc := range []int{math.MinInt, -1, 0, 1, api.MaxDocs, math.MaxInt} {
			p.advance(t, doc)
			p.goOn(t)
		}
	}
}

// 14.4: Post doesn't move the cursor, however often it is called.
func TestPostStays(t *testing.T) {
	p := pairOver(t, "two", []api.Post{post(3, 0, 2), post(4, 1)})
	for range 4 {
		for range 3 {
			p.cursor.Post()
		}
		p.goOn(t)
	}
}

// 14.4: of a nil cursor.
func TestNilCursor(t *testing.T) {
	var c *posting.Cursor
	for range 2 {
		if c.Next() {
			t.Errorf("Next of nil is true")
		}
		for _, doc := range []int{math.MinInt, -1, 0, 1, math.MaxInt} {
			if c.Advance(doc) {
				t.Errorf("Advance(%d) of nil is true", doc)
			}
		}
		if p, ok := c.Post(); ok || p.Doc != 0 || p.At != nil {
			t.Errorf("Post of nil = %v, %v", p, ok)
		}
	}
}

// 14.4: a posting's zero value where there is none.
func TestNoPost(t *testing.T) {
	c, _ := posting.New([]api.Post{post(5, 6)})
	isNone := func(where string) {
		if p, ok := c.Post(); ok || p.Doc != 0 || p.At != nil {
			t.Errorf("%s: Post = %v, %v", where, p, ok)
		}
	}
	isNone("ahead")
	c.Next()
	c.Next()
	isNone("behind")
}

// 14.4: Next and Advance in turn, in all orders, over all short lists.
func TestAllOrders(t *testing.T) {
	goals := []int{math.MinInt, -1, 0, 1, 2, 3, 4, 5, math.MaxInt}
	calls := len(goals) + 1
	for some := range 1 << 5 {
		var list []api.Post
		for doc := range 5 {
			if some>>doc&1 == 1 {
				list = append(list, post(doc, doc, doc+some))
			}
		}
		for order := range calls * calls * calls * calls {
			p := pairOver(t, fmt.Sprint(show(list), " order ", order), list)
			for left := order; left > 0; left /= calls {
				if left%calls == 0 {
					p.goOn(t)
				} else {
					p.advance(t, goals[left%calls-1])
				}
			}
		}
	}
}

// 14.4: from each posting, and from ahead of all and behind all, to each document and those beside it, in lists of all lengths
// about the powers of what may be skipped at once.
func TestAdvanceFromEach(t *testing.T) {
	for _, count := range []int{0, 1, 2, 3, 4, 5, 7, 8, 9, 10, 15, 16, 17, 20, 31, 32, 33, 63, 64, 65, 70} {
		list := rowOf(1, count, 3)
		for from := range count + 2 {
			for doc := -1; doc < 3*count+4; doc++ {
				p := pairOver(t, fmt.Sprint(count, " documents, from ", from), list)
				for range from {
					p.cursor.Next()
					p.plain.goOn()
				}
				p.advance(t, doc)
				p.goOn(t)
			}
		}
	}
}

// 14.4: long lists, gone over by steps of each length, and by drawn ones.
func TestLongLists(t *testing.T) {
	r := rand.New(rand.NewPCG(14, 4))
	for _, count := range []int{100, 127, 128, 129, 255, 256, 257, 511, 512, 513, 1000, 4095, 4096, 4097} {
		list := rowOf(count%7, count, 1+count%4)
		last := list[count-1].Doc
		for step := 1; step <= last+1; step += 1 + step/3 {
			p := pairOver(t, fmt.Sprint(count, " documents by steps of ", step), list)
			for doc := r.IntN(step); doc <= last+step; doc += step {
				p.advance(t, doc)
			}
		}
		for range 60 {
			p := pairOver(t, fmt.Sprint(count, " documents by drawn steps"), list)
			most := 1 + r.IntN(last+1)
			for doc := 0; doc <= last+1; {
				if r.IntN(3) == 0 {
					p.goOn(t)
				} else {
					p.advance(t, doc)
				}
				now, _ := p.plain.post()
				doc = max(doc, now.Doc) + r.IntN(1+most) - r.IntN(1+most/4)
				if _, there := p.plain.post(); !there {
					break
				}
			}
		}
	}
}

// 14.4: drawn lists, by drawn calls.
func TestDrawnCalls(t *testing.T) {
	r := rand.New(rand.NewPCG(14, 6))
	for range 2000 {
		list := drawnList(r)
		last := 0
		if len(list) > 0 {
			last = list[len(list)-1].Doc
		}
		p := pairOver(t, "drawn", list)
		doc := 0
		for range 30 {
			if r.IntN(3) == 0 {
				p.goOn(t)
				continue
			}
			doc += r.IntN(2+last/8) - r.IntN(2+last/16)
			p.advance(t, doc)
		}
	}
}

// 14.4: as many postings as may be.
func TestManyToGoOver(t *testing.T) {
	list := rowOf(0, api.MaxDocs, 1)
	p := pairOver(t, "as many as may be", list)
	for doc := 1; doc < api.MaxDocs; doc += 1 + doc/2 {
		p.advance(t, doc-1)
		p.advance(t, doc)
		p.goOn(t)
	}
	p.advance(t, api.MaxDocs-1)
	p.advance(t, api.MaxDocs-1)
	p.goOn(t)
	p.advance(t, 0)
	last := pairOver(t, "as many as may be", list)
	last.advance(t, api.MaxDocs)
}

// Rule 4: a cursor keeps nothing of what it was handed, and hands out new memory each time.
func TestCursorMemory(t *testing.T) {
	for name, list := range lists() {
		some := copyOf(list)
		p := pairOver(t, name, some)
		p.plain.list = list
		dirty(some)
		for range min(len(list), 50) + 1 {
			p.goOn(t)
			one, _ := p.cursor.Post()
			other, _ := p.cursor.Post()
			kept := slices.Clone(other.At)
			dirtyAt(one.At)
			if !slices.Equal(other.At, kept) {
				t.Errorf("%s: another answer is changed too", name)
			}
			p.advance(t, -1)
		}
	}
}

// Rule 6: cursors over the same postings go each on its own.
func TestTwoCursors(t *testing.T) {
	list := rowOf(2, 100, 2)
	a, b := pairOver(t, "a", list), pairOver(t, "b", list)
	for i := range 60 {
		a.goOn(t)
		b.advance(t, 7*i)
		p, _ := a.cursor.Post()
		dirtyAt(p.At)
		b.stands(t, "Next of another", b.plain.next <= len(list))
		a.stands(t, "Advance of another", true)
	}
}
