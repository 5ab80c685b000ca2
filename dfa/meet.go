package dfa

import (
	"slices"

	"gloss/api"
	"gloss/bitpack"
	"gloss/tuple"
)

// lead tells to which thing, by its text, bytes lead.
type lead struct {
	lo, hi int
	text   string
}

// meet answers an automaton of the things that are met from a start on, in their order: ErrMany, if they are more than
// so many. Things are told by texts; look answers whether a thing is final, and where its bytes lead, rising.
func meet(start string, most int, look func(text string) (bool, []lead)) ([]api.State, api.Errno) {
	place, texts := map[string]int{start: 0}, []string{start}
	var d []api.State
	for len(d) < len(texts) {
		if len(texts) > most {
			return nil, api.ErrMany
		}
		final, leads := look(texts[len(d)])
		s := api.State{Final: final}
		for _, l := range leads {
			to, met := place[l.text]
			if !met {
				to = len(texts)
				place[l.text] = to
				texts = append(texts, l.text)
			}
			s.Arcs = joined(s.Arcs, api.Arc{Lo: l.lo, Hi: l.hi, To: to})
		}
		d = append(d, s)
	}
	return d, api.OK
}

// joined puts an arc behind others, or makes the last of them longer, if both lead to the same state side by side.
func joined(arcs []api.Arc, a api.Arc) []api.Arc {
	last := len(arcs) - 1
	if last >= 0 && arcs[last].To == a.To && arcs[last].Hi+1 == a.Lo {
		arcs[last].Hi = a.Hi
		return arcs
	}
	return append(arcs, a)
}

// sets are those of loose states. In a text a set's states stand rising, each less the one ahead, which is mostly a byte.
type sets struct {
	states []api.Loose
	in     []bool // of each state, while a set is made: whether it is in it
}

// textOf answers the text of the set that has some states, and all that they lead to by nothing.
func (m *sets) textOf(some []int) string {
	var set []int
	add := func(list []int) {
		for _, s := range list {
			if !m.in[s] {
				m.in[s] = true
				set = append(set, s)
			}
		}
	}
	add(some)
	for i := 0; i < len(set); i++ {
		add(m.states[set[i]].Free)
	}
	for _, s := range set {
		m.in[s] = false
	}
	slices.Sort(set)
	return tuple.Nums(bitpack.Deltas(set)...)
}

// look answers whether a set has a final state, and where its bytes lead.
func (m *sets) look(text string) (final bool, leads []lead) {
	set := bitpack.Sums(numbersOf(text))
	rows := make([][]api.Arc, 0, len(set))
	for _, s := range set {
		final = final || m.states[s].Final
		rows = append(rows, m.states[s].Arcs)
	}
	for _, g := range stretchesOf(rows) {
		leads = append(leads, lead{g.lo, g.hi, m.textOf(g.to)})
	}
	return final, leads
}

// numbersOf answers the numbers that a text tells.
func numbersOf(text string) []int {
	list, c := make([]int, 0, len(text)), tuple.At(text)
	for n, e := c.Num(); e == api.OK; n, e = c.Num() {
		list = append(list, n)
	}
	return list
}

// pairs are those of the states of two automata.
type pairs struct{ a, b []api.State }

// look answers whether both states of a pair are final, and where bytes lead both.
func (m *pairs) look(text string) (final bool, leads []lead) {
	pair := numbersOf(text)
	a, b := m.a[pair[0]], m.b[pair[1]]
	for i, k := 0, 0; i < len(a.Arcs) && k < len(b.Arcs); {
		x, y := a.Arcs[i], b.Arcs[k]
		if lo, hi := max(x.Lo, y.Lo), min(x.Hi, y.Hi); lo <= hi {
			leads = append(leads, lead{lo, hi, tuple.Nums(x.To, y.To)})
		}
		// The arc that ends first meets nothing more.
		if x.Hi <= y.Hi {
			i++
		} else {
			k++
		}
	}
	return a.Final && b.Final, leads
}

// stretch are bytes side by side by which the same arcs lead, and the states to which they do, some perhaps more than once.
type stretch struct {
	lo, hi int
	to     []int
}

// stretchesOf answers the stretches by whose bytes any of the arcs leads, rising.
func stretchesOf(rows [][]api.Arc) []stretch {
	var begins [lastByte + 2]bool
	for _, arcs := range rows {
		for _, a := range arcs {
			begins[a.Lo], begins[a.Hi+1] = true, true
		}
	}
	var all []stretch
	var of [lastByte + 1]int // the place of each byte's stretch
	for c := range of {
		if c == 0 || begins[c] {
			all = append(all, stretch{lo: c})
		}
		of[c] = len(all) - 1
		all[of[c]].hi = c
	}
	for _, arcs := range rows {
		for _, a := range arcs {
			for i := of[a.Lo]; i <= of[a.Hi]; i++ {
				all[i].to = append(all[i].to, a.To)
			}
		}
	}
	return slices.DeleteFunc(all, func(g stretch) bool { return len(g.to) == 0 })
}
