package posting

import (
	"slices"

	"gloss/api"
)

// Cursor goes over postings.
type Cursor struct {
	docs   tower   // the Docs
	places [][]int // of each posting
	at     int     // which posting it stands at: -1 is ahead of the first one, how many there are is behind the last one
}

// New answers a cursor ahead of the first of postings.
func New(list []api.Post) (*Cursor, api.Errno) {
	if e := Check(list); e != api.OK {
		return nil, e
	}
	foot, places := make([]int, len(list)), make([][]int, len(list))
	for i, p := range list {
		foot[i], places[i] = p.Doc, slices.Clone(p.At)
	}
	return &Cursor{docs: towerOn(foot), places: places, at: -1}, api.OK
}

// Next goes on to the next document.
func (c *Cursor) Next() bool {
	if c == nil {
		return false
	}
	c.at = min(c.at+1, len(c.places))
	return c.stands()
}

// Advance goes on to the first document that isn't ahead of one, if it isn't there.
func (c *Cursor) Advance(doc int) bool {
	if c == nil {
		return false
	}
	c.at = c.docs.seek(max(c.at, 0), doc)
	return c.stands()
}

// stands tells whether the cursor is at a posting.
func (c *Cursor) stands() bool {
	return c != nil && c.at >= 0 && c.at < len(c.places)
}

// Post answers where the cursor stands.
func (c *Cursor) Post() (api.Post, bool) {
	if !c.stands() {
		return api.Post{}, false
	}
	return api.Post{Doc: c.docs[0][c.at], At: slices.Clone(c.places[c.at])}, true
}
