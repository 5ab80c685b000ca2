package fst

import (
	"math"
	"strings"

	"gloss/api"
	"gloss/tuple"
)

// Build answers the bytes of terms that rise.
func Build(list []api.Entry) (string, api.Errno) {
	if e := check(list); e != api.OK {
		return "", e
	}
	texts, least := network(list)
	return tuple.Nums(len(texts), least) + strings.Join(texts, ""), api.OK
}

// check answers the first error of a list that is to be built.
func check(list []api.Entry) api.Errno {
	if len(list) > api.MaxTerms {
		return api.ErrMany
	}
	ahead := ""
	for _, t := range list {
		switch {
		case t.Term == "" || t.Out < 0:
			return api.ErrInput
		case len(t.Term) > api.MaxTerm:
			return api.ErrLimit
		case t.Term <= ahead:
			return api.ErrForm
		}
		ahead = t.Term
	}
	return api.OK
}

// network answers the bytes of each node of terms that rise, in the nodes' order, and the least number of all terms.
func network(list []api.Entry) (texts []string, least int) {
	if len(list) == 0 {
		return nil, 0
	}
	places := map[string]int{}
	// walk goes along the terms that have so many first bytes in common, and answers the place of these bytes' node and
	// the terms' least number. What a node's ways lead to is placed ahead of it, so its bytes tell its rests: the same
	// bytes are the same node.
	var walk func(terms []api.Entry, common int) (place, least int)
	walk = func(terms []api.Entry, common int) (place, least int) {
		var n api.Node
		least = math.MaxInt
		if first := terms[0]; len(first.Term) == common {
			n.Final, n.Out, least = true, first.Out, first.Out
			terms = terms[1:]
		}
		for len(terms) > 0 {
			size := alike(terms, common)
			to, out := walk(terms[:size], common+1)
			n.Ways = append(n.Ways, api.Way{C: int(terms[0].Term[common]), Out: out, To: to})
			least = min(least, out)
			terms = terms[size:]
		}
		text := textOf(n, least)
		place, met := places[text]
		if !met {
			place = len(texts)
			places[text] = place
			texts = append(texts, text)
		}
		return place, least
	}
	_, least = walk(list, 0)
	return texts, least
}

// alike answers how many of the first terms have the same byte at a place.
func alike(terms []api.Entry, at int) int {
	size := 1
	for size < len(terms) && terms[size].Term[at] == terms[0].Term[at] {
		size++
	}
	return size
}

// textOf answers a node's bytes. Its Outs are yet the numbers of terms themselves, of which this is the least.
func textOf(n api.Node, least int) string {
	nums := []int{2 * len(n.Ways)}
	if n.Final {
		nums = []int{2*len(n.Ways) + 1, n.Out - least}
	}
	for _, w := range n.Ways {
		nums = append(nums, w.C, w.Out-least, w.To)
	}
	return tuple.Nums(nums...)
}
