package dfa

import "gloss/api"

// least answers the least automaton that takes what one takes.
func least(d []api.State) []api.State {
	back := backward(d)
	alive := aliveOf(d, back)
	if !alive[0] {
		return make([]api.State, 1)
	}
	return told(d, classesOf(d, back, alive))
}

// backward answers of each state the arcs that lead to it, each with the place from which it leads as its To.
func backward(d []api.State) [][]api.Arc {
	back := make([][]api.Arc, len(d))
	for i, s := range d {
		for _, a := range s.Arcs {
			back[a.To] = append(back[a.To], api.Arc{Lo: a.Lo, Hi: a.Hi, To: i})
		}
	}
	return back
}

// aliveOf answers of each state whether a Final one is reached from it.
func aliveOf(d []api.State, back [][]api.Arc) []bool {
	alive := make([]bool, len(d))
	var found []int
	for i, s := range d {
		if s.Final {
			alive[i] = true
			found = append(found, i)
		}
	}
	for i := 0; i < len(found); i++ {
		for _, a := range back[found[i]] {
			if !alive[a.To] {
				alive[a.To] = true
				found = append(found, a.To)
			}
		}
	}
	return alive
}

// classes are states put together as long as nothing tells them apart. They are split (as Hopcroft found) by where bytes
// lead into a class that waits; of a class that no longer waits only the lesser half has to, once it is split itself.
type classes struct {
	of      []int   // of each state: its class; nowhere, if no Final one is reached from it
	at      []int   // of each state: its place in its class
	members [][]int // of each class: its states
	waits   []bool  // of each class: whether others are still to be split by it
	waiting []int   // the classes that wait
}

// classesOf answers the classes of states that take the same texts, of those from which a Final one is reached.
func classesOf(d []api.State, back [][]api.Arc, alive []bool) *classes {
	p := &classes{of: make([]int, len(d)), at: make([]int, len(d))}
	var finals, others []int
	for i, s := range d {
		p.of[i] = nowhere
		if s.Final {
			finals = append(finals, i)
		} else if alive[i] {
			others = append(others, i)
		}
	}
	// Both wait: as bytes may lead nowhere, what leads to the one doesn't tell what leads to the other.
	p.wait(p.found(finals))
	p.wait(p.found(others))
	for len(p.waiting) > 0 {
		last := len(p.waiting) - 1
		c := p.waiting[last]
		p.waiting = p.waiting[:last]
		p.waits[c] = false
		for _, g := range p.whence(c, back) {
			p.splitBy(g.to)
		}
	}
	return p
}

// whence answers from which states bytes lead into a class.
func (p *classes) whence(c int, back [][]api.Arc) []stretch {
	rows := make([][]api.Arc, 0, len(p.members[c]))
	for _, s := range p.members[c] {
		rows = append(rows, back[s])
	}
	return stretchesOf(rows)
}

// found makes a class of states, and answers which.
func (p *classes) found(states []int) int {
	c := len(p.members)
	p.members = append(p.members, states)
	p.waits = append(p.waits, false)
	for i, s := range states {
		p.of[s], p.at[s] = c, i
	}
	return c
}

// wait lets a class wait.
func (p *classes) wait(c int) {
	p.waits[c] = true
	p.waiting = append(p.waiting, c)
}

// splitBy splits each class of which some, but not all states are among these, which are all unlike.
func (p *classes) splitBy(states []int) {
	inside := map[int][]int{}
	var order []int
	for _, s := range states {
		c := p.of[s]
		if len(p.members[c]) == 1 {
			continue
		}
		if len(inside[c]) == 0 {
			order = append(order, c)
		}
		inside[c] = append(inside[c], s)
	}
	for _, c := range order {
		if len(inside[c]) < len(p.members[c]) {
			p.split(c, inside[c])
		}
	}
}

// split makes a class of its own of some of a class's states.
func (p *classes) split(c int, some []int) {
	for _, s := range some {
		p.takeOut(c, s)
	}
	fresh := p.found(some)
	if !p.waits[c] && len(p.members[c]) < len(some) {
		p.wait(c)
	} else {
		p.wait(fresh)
	}
}

// takeOut takes a state out of its class; the last one comes into its place.
func (p *classes) takeOut(c, s int) {
	last := len(p.members[c]) - 1
	moved := p.members[c][last]
	p.members[c][p.at[s]] = moved
	p.at[moved] = p.at[s]
	p.members[c] = p.members[c][:last]
}

// told answers the automaton whose states are the classes, as they are met from the start's on.
func told(d []api.State, p *classes) []api.State {
	place, order := map[int]int{p.of[0]: 0}, []int{p.of[0]}
	var out []api.State
	for len(out) < len(order) {
		// All of a class lead alike, but for arcs to where no Final state is reached.
		one := d[p.members[order[len(out)]][0]]
		s := api.State{Final: one.Final}
		for _, a := range one.Arcs {
			c := p.of[a.To]
			if c == nowhere {
				continue
			}
			to, met := place[c]
			if !met {
				to = len(order)
				place[c] = to
				order = append(order, c)
			}
			s.Arcs = joined(s.Arcs, api.Arc{Lo: a.Lo, Hi: a.Hi, To: to})
		}
		out = append(out, s)
	}
	return out
}
