package fst

import (
	"gloss/api"
	"gloss/tuple"
)

const (
	mostWays  = 256                          // one for each byte
	mostNodes = api.MaxTerms*api.MaxTerm + 1 // one for each beginning of each term, and one for all
)

// Open answers the dictionary that bytes are.
func Open(s string) (*Dict, api.Errno) {
	c := tuple.At(s)
	d, e := read(c)
	if e == api.OK {
		e = c.End()
	}
	if e == api.OK && (d == nil || !writes(d, s)) {
		e = api.ErrForm
	}
	if e != api.OK {
		return nil, e
	}
	return d, api.OK
}

// writes tells whether bytes are what Build writes of a dictionary's terms.
func writes(d *Dict, s string) bool {
	again, e := Build(d.All())
	return e == api.OK && again == s
}

// read goes over a dictionary. It answers none beside no error, if there is a node without terms or there are more nodes
// than terms can have, as Build writes neither: what is left is gone over for its errors alone, since ways to no terms may
// be too many to be walked along, and nodes too many to be kept.
func read(c *tuple.Cursor) (*Dict, api.Errno) {
	count, e := c.Count()
	if e != api.OK {
		return nil, e
	}
	least, e := c.Count()
	if e != api.OK {
		return nil, e
	}
	d := &Dict{least: least}
	var behind []rests
	for i := range count {
		n, e := readNode(c, i)
		if e != api.OK {
			return nil, e
		}
		r := restsOf(n, behind)
		if r.terms > api.MaxTerms || r.longest > api.MaxTerm {
			return nil, api.ErrForm
		}
		behind = append(behind, r)
		if r.terms == 0 || i == mostNodes {
			d = nil
		}
		if d != nil {
			d.nodes, d.terms = append(d.nodes, n), int(r.terms)
		}
	}
	return d, api.OK
}

// rests are what stands behind a node: of how many terms, and how many bytes of the longest one.
type rests struct {
	terms, longest int32
}

// restsOf answers what stands behind a node, by what stands behind each one ahead of it.
func restsOf(n api.Node, behind []rests) rests {
	var r rests
	if n.Final {
		r.terms = 1
	}
	for _, w := range n.Ways {
		if to := behind[w.To]; to.terms > 0 {
			r.terms += to.terms
			r.longest = max(r.longest, to.longest+1)
		}
	}
	return r
}

// readNode goes over the node at a place.
func readNode(c *tuple.Cursor, at int) (api.Node, api.Errno) {
	var n api.Node
	head, e := c.Count()
	if e != api.OK {
		return api.Node{}, e
	}
	if head/2 > mostWays {
		return api.Node{}, api.ErrForm
	}
	if head%2 == 1 {
		n.Final = true
		if n.Out, e = c.Count(); e != api.OK {
			return api.Node{}, e
		}
	}
	for range head / 2 {
		w, e := readWay(c)
		if e != api.OK {
			return api.Node{}, e
		}
		if w.C >= mostWays || w.To >= at {
			return api.Node{}, api.ErrForm
		}
		n.Ways = append(n.Ways, w)
	}
	return n, api.OK
}

// readWay goes over a way.
func readWay(c *tuple.Cursor) (w api.Way, e api.Errno) {
	for _, part := range []*int{&w.C, &w.Out, &w.To} {
		if *part, e = c.Count(); e != api.OK {
			return api.Way{}, e
		}
	}
	return w, api.OK
}
