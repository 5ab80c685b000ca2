package posting_test

import (
	"fmt"
	"math/rand/v2"
	"slices"
	"testing"

	"gloss/api"
	"gloss/bitpack"
	"gloss/posting"
)

// post is a document, and at which places of a field a term stands in it.
func post(doc int, at ...int) api.Post {
	return api.Post{Doc: doc, At: at}
}

// row answers numbers from one on, so many, each so much more than the one ahead of it.
func row(from, count, step int) []int {
	list := make([]int, count)
	for i := range list {
		list[i] = from + i*step
	}
	return list
}

// rowOf answers so many postings of one place each, the documents of which are a row.
func rowOf(from, count, step int) []api.Post {
	list := make([]api.Post, count)
	for i, doc := range row(from, count, step) {
		list[i] = post(doc, i%api.MaxText)
	}
	return list
}

// drawnAt answers places, rising by drawn steps, at most so many.
func drawnAt(r *rand.Rand, most, step int) []int {
	at := []int{r.IntN(step)}
	for len(at) < most && at[len(at)-1]+step < api.MaxText {
		at = append(at, at[len(at)-1]+1+r.IntN(step))
	}
	return at
}

// drawnList answers postings, rising by drawn steps.
func drawnList(r *rand.Rand) []api.Post {
	step, most := 1+r.IntN(1+r.IntN(3000)), r.IntN(1+r.IntN(300))
	doc := -1
	var list []api.Post
	for range most {
		doc += 1 + r.IntN(step)
		list = append(list, post(doc, drawnAt(r, 1+r.IntN(1+r.IntN(12)), 1+r.IntN(1+r.IntN(600)))...))
	}
	return list
}

// lists are postings that may be, of each kind.
func lists() map[string][]api.Post {
	all := map[string][]api.Post{
		"nothing":               nil,
		"one":                   {post(0, 0)},
		"one, far":              {post(api.MaxDocs-1, api.MaxText-1)},
		"one, all places":       {post(7, row(0, api.MaxText, 1)...)},
		"two":                   {post(3, 0, 2), post(4, 1)},
		"first and last":        {post(0, 0, api.MaxText-1), post(api.MaxDocs-1, 0, api.MaxText-1)},
		"same places":           {post(1, 5, 6, 7), post(2, 5, 6, 7), post(3, 5, 6, 7)},
		"falling places":        {post(0, 4000), post(10, 3000, 3001), post(20, 2000), post(30, 0)},
		"no place, but for one": append(rowOf(0, 20, 1), post(100, row(3, 300, 13)...), post(101, 4)),
	}
	for _, count := range []int{7, 8, 9, 63, 64, 65, 127, 128, 129, 255, 256, 257, 385, 513} {
		all[fmt.Sprint("a row of ", count)] = rowOf(count%3, count, 1+count%5)
		all[fmt.Sprint("places, ", count)] = []api.Post{post(count, row(0, count, 7)...), post(count+1, 9)}
	}
	r := rand.New(rand.NewPCG(14, 2))
	for i := range 40 {
		all[fmt.Sprint("drawn ", i)] = drawnList(r)
	}
	return all
}

// isSame tells whether postings are alike, element by element.
func isSame(a, b []api.Post) bool {
	return slices.EqualFunc(a, b, func(p, q api.Post) bool { return p.Doc == q.Doc && slices.Equal(p.At, q.At) })
}

// copyOf answers postings that share nothing with these.
func copyOf(list []api.Post) []api.Post {
	var other []api.Post
	for _, p := range list {
		other = append(other, post(p.Doc, slices.Clone(p.At)...))
	}
	return other
}

// show answers a value's text, cut if it is long.
func show(v any) string {
	return fmt.Sprintf("%.200s", fmt.Sprint(v))
}

// plainCheck tells whether postings may be, as the chapter's words stand.
func plainCheck(list []api.Post) api.Errno {
	for i, p := range list {
		if p.Doc >= 1048576 {
			return api.ErrLimit
		}
		if p.Doc < 0 || i > 0 && p.Doc <= list[i-1].Doc || len(p.At) == 0 {
			return api.ErrForm
		}
		for k, place := range p.At {
			if place < 0 || k > 0 && place <= p.At[k-1] {
				return api.ErrForm
			}
			if place >= 4096 {
				return api.ErrLimit
			}
		}
	}
	return api.OK
}

// packed answers the bytes of three lists of numbers, one behind the other.
func packed(docs, counts, places []int) string {
	s := ""
	for _, numbers := range [][]int{docs, counts, places} {
		some, e := bitpack.Pack(numbers)
		if e != api.OK {
			panic(fmt.Sprint("Pack of ", numbers))
		}
		s += some
	}
	return s
}

// plainPack answers the bytes of postings that may be, each difference reckoned by itself.
func plainPack(list []api.Post) string {
	var docs, counts, places []int
	for i, p := range list {
		if i == 0 {
			docs = append(docs, p.Doc)
		} else {
			docs = append(docs, p.Doc-list[i-1].Doc)
		}
		counts = append(counts, len(p.At))
		places = append(places, p.At[0])
		for k, place := range p.At[1:] {
			places = append(places, place-p.At[k])
		}
	}
	return packed(docs, counts, places)
}

// plainRead answers the postings that bytes are: those that are packed as just these.
func plainRead(s string) ([]api.Post, api.Errno) {
	var lists [][]int
	left := s
	for range 3 {
		numbers, size, e := bitpack.Read(left)
		if e != api.OK {
			return nil, e
		}
		lists, left = append(lists, numbers), left[size:]
	}
	if left != "" {
		return nil, api.ErrTail
	}
	list := made(lists[0], lists[1], lists[2])
	if plainCheck(list) != api.OK || plainPack(list) != s {
		return nil, api.ErrForm
	}
	return list, api.OK
}

// made answers postings out of three lists, as many and as far as these reach. Past the first few that are no places, it ends.
func made(docs, counts, places []int) []api.Post {
	var list []api.Post
	doc, next := 0, 0
	for i := range docs {
		doc += docs[i]
		p := post(doc)
		place := 0
		for i < len(counts) && len(p.At) < counts[i] && len(p.At) < 5000 && next < len(places) {
			place += places[next]
			p.At = append(p.At, place)
			next++
		}
		list = append(list, p)
	}
	return list
}

// isRead tells of bytes that Read doesn't answer as they are read posting by posting.
func isRead(t *testing.T, s string) {
	t.Helper()
	list, e := posting.Read(s)
	want, wantE := plainRead(s)
	if e != wantE || !isSame(list, want) {
		t.Errorf("Read(% .80x) = %s, error %d; want %s, error %d", s, show(list), e, show(want), wantE)
	}
}

// refused tells of bytes that Read doesn't refuse with just this error.
func refused(t *testing.T, s string, want api.Errno) {
	t.Helper()
	if list, e := posting.Read(s); len(list) != 0 || e != want {
		t.Errorf("Read(% .80x) = %s, error %d; want error %d", s, show(list), e, want)
	}
}

// plainCursor goes over postings one by one: next is the one behind that at which it stands.
type plainCursor struct {
	list []api.Post
	next int
}

// goOn goes to the next posting.
func (c *plainCursor) goOn() {
	if c.next <= len(c.list) {
		c.next++
	}
}

// advance goes on, one by one, while it stands ahead of a document.
func (c *plainCursor) advance(doc int) {
	if c.next == 0 {
		c.next = 1
	}
	for c.next <= len(c.list) && c.list[c.next-1].Doc < doc {
		c.next++
	}
}

// post answers the posting at which it stands.
func (c *plainCursor) post() (api.Post, bool) {
	if c.next == 0 || c.next > len(c.list) {
		return api.Post{}, false
	}
	return c.list[c.next-1], true
}

// pair is a cursor, and a plain one that goes along with it.
type pair struct {
	cursor *posting.Cursor
	plain  plainCursor
	name   string
}

// pairOver answers a pair ahead of the first of postings.
func pairOver(t *testing.T, name string, list []api.Post) *pair {
	t.Helper()
	c, e := posting.New(list)
	if e != api.OK || c == nil {
		t.Fatalf("%s: New of %d postings: %v, error %d", name, len(list), c, e)
	}
	p := &pair{cursor: c, plain: plainCursor{list: list}, name: name}
	p.stands(t, "New", false)
	return p
}

// stands tells of a cursor that doesn't stand where the plain one does, or said so.
func (p *pair) stands(t *testing.T, call string, said bool) {
	t.Helper()
	want, there := p.plain.post()
	got, ok := p.cursor.Post()
	if said != there || ok != there || got.Doc != want.Doc || !slices.Equal(got.At, want.At) {
		t.Errorf("%s: %s said %v, Post = %s, %v; want %s, %v", p.name, call, said, show(got), ok, show(want), there)
	}
}

// goOn calls Next.
func (p *pair) goOn(t *testing.T) {
	t.Helper()
	p.plain.goOn()
	p.stands(t, "Next", p.cursor.Next())
}

// advance calls Advance.
func (p *pair) advance(t *testing.T, doc int) {
	t.Helper()
	p.plain.advance(doc)
	p.stands(t, fmt.Sprint("Advance to ", doc), p.cursor.Advance(doc))
}
