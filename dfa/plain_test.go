package dfa_test

import (
	"fmt"
	"math/rand/v2"
	"slices"
	"testing"

	"gloss/api"
	"gloss/dfa"
)

// machine takes texts as the chapter tells it, byte by byte; 0 is its start, -1 no state.
type machine struct {
	step  func(state, c int) int
	final func(state int) bool
}

// ofStates answers the machine that states are: where no arc leads, nothing is taken any more.
func ofStates(d []api.State) machine {
	return machine{
		step: func(state, c int) int {
			for _, a := range d[state].Arcs {
				if a.Lo <= c && c <= a.Hi {
					return a.To
				}
			}
			return -1
		},
		final: func(state int) bool { return d[state].Final },
	}
}

// ofLoose answers the machine whose states are the sets of loose states.
func ofLoose(n []api.Loose) machine {
	var sets [][]bool
	places := map[string]int{}
	place := func(set []bool) int {
		if !slices.Contains(set, true) {
			return -1
		}
		// All that is led to by nothing, until nothing more comes.
		for more := true; more; {
			more = false
			for i, s := range n {
				for _, to := range s.Free {
					if set[i] && !set[to] {
						set[to], more = true, true
					}
				}
			}
		}
		text := fmt.Sprint(set)
		if _, ok := places[text]; !ok {
			places[text] = len(sets)
			sets = append(sets, set)
		}
		return places[text]
	}
	start := make([]bool, len(n))
	start[0] = true
	place(start)
	return machine{
		step: func(state, c int) int {
			to := make([]bool, len(n))
			for i, s := range n {
				for _, a := range s.Arcs {
					if sets[state][i] && a.Lo <= c && c <= a.Hi {
						to[a.To] = true
					}
				}
			}
			return place(to)
		},
		final: func(state int) bool {
			for i, s := range n {
				if sets[state][i] && s.Final {
					return true
				}
			}
			return false
		},
	}
}

// ofPairs answers the machine whose states are the pairs of two automata.
func ofPairs(a, b []api.State) machine {
	x, y := ofStates(a), ofStates(b)
	return machine{
		step: func(state, c int) int {
			i, k := x.step(state/len(b), c), y.step(state%len(b), c)
			if i < 0 || k < 0 {
				return -1
			}
			return i*len(b) + k
		},
		final: func(state int) bool { return x.final(state/len(b)) && y.final(state%len(b)) },
	}
}

// met answers how many of a machine's states are met from its start on.
func met(m machine, letters []int) int {
	seen, list := map[int]bool{0: true}, []int{0}
	for i := 0; i < len(list); i++ {
		for _, c := range letters {
			if to := m.step(list[i], c); to >= 0 && !seen[to] {
				seen[to] = true
				list = append(list, to)
			}
		}
	}
	return len(list)
}

// takeTheSame tells whether two machines take the same texts.
func takeTheSame(a, b machine, letters []int) bool {
	type pair struct{ a, b int }
	step := func(m machine, state, c int) int {
		if state < 0 {
			return -1
		}
		return m.step(state, c)
	}
	seen, list := map[pair]bool{{0, 0}: true}, []pair{{0, 0}}
	for i := 0; i < len(list); i++ {
		p := list[i]
		if (p.a >= 0 && a.final(p.a)) != (p.b >= 0 && b.final(p.b)) {
			return false
		}
		for _, c := range letters {
			to := pair{step(a, p.a, c), step(b, p.b, c)}
			if !seen[to] {
				seen[to] = true
				list = append(list, to)
			}
		}
	}
	return true
}

// ends answers one byte of each stretch in which no arc begins or ends: between these all bytes lead alike.
func ends(lists ...[]api.Arc) []int {
	list := []int{0, 255}
	for _, arcs := range lists {
		for _, a := range arcs {
			list = append(list, a.Lo, min(a.Hi+1, 255))
		}
	}
	slices.Sort(list)
	return slices.Compact(list)
}

// arcsOf answers the arcs of states, a list of each.
func arcsOf(d []api.State) [][]api.Arc {
	var lists [][]api.Arc
	for _, s := range d {
		lists = append(lists, s.Arcs)
	}
	return lists
}

// arcsOfLoose answers the arcs of loose states, a list of each.
func arcsOfLoose(n []api.Loose) [][]api.Arc {
	var lists [][]api.Arc
	for _, s := range n {
		lists = append(lists, s.Arcs)
	}
	return lists
}

// allBytes answers 0 to 255.
func allBytes() []int {
	var list []int
	for c := range 256 {
		list = append(list, c)
	}
	return list
}

// notLeast answers why states aren't the least automaton of what they take; "" if they are.
func notLeast(d []api.State) string {
	if e := dfa.Check(d); e != api.OK {
		return fmt.Sprint("Check: error ", e)
	}
	next := 1 // the place of the next state that is met for the first time
	for i, s := range d {
		if i >= next {
			return fmt.Sprint("never met, or not so early: state ", i)
		}
		for k, a := range s.Arcs {
			if k > 0 && s.Arcs[k-1].To == a.To && s.Arcs[k-1].Hi+1 == a.Lo {
				return fmt.Sprint("side by side: arcs of state ", i)
			}
			if a.To > next {
				return fmt.Sprint("met too early: state ", a.To)
			}
			next = max(next, a.To+1)
		}
	}
	return needless(d)
}

// needless answers which state there need not be: one from which no Final one is reached, or one of two that take the same.
func needless(d []api.State) string {
	m, letters := ofStates(d), ends(arcsOf(d)...)
	nothing := ofStates([]api.State{{}})
	if len(d) == 1 && len(d[0].Arcs) == 0 {
		return ""
	}
	for i := range d {
		if takeTheSame(m.from(i), nothing, letters) {
			return fmt.Sprint("leads to no Final state: state ", i)
		}
		for k := range i {
			if takeTheSame(m.from(i), m.from(k), letters) {
				return fmt.Sprint("take the same: states ", i, " and ", k)
			}
		}
	}
	return ""
}

// from answers the machine that starts at another state.
func (m machine) from(start int) machine {
	swap := func(state int) int {
		switch state {
		case 0:
			return start
		case start:
			return 0
		}
		return state
	}
	return machine{
		step:  func(state, c int) int { return swap(m.step(swap(state), c)) },
		final: func(state int) bool { return m.final(swap(state)) },
	}
}

// isLeastOf tells of an answer that isn't the least automaton of what a machine takes that has these arcs.
func isLeastOf(t *testing.T, name string, d []api.State, e api.Errno, want machine, arcs [][]api.Arc) {
	t.Helper()
	if e != api.OK {
		t.Errorf("%s: error %d", name, e)
		return
	}
	if why := notLeast(d); why != "" {
		t.Errorf("%s: %v: %s", name, d, why)
		return
	}
	if !takeTheSame(ofStates(d), want, ends(slices.Concat(arcsOf(d), arcs)...)) {
		t.Errorf("%s: %v takes other texts", name, d)
	}
}

// someStates answers an automaton of so many states, drawn by numbers that are always the same.
func someStates(r *rand.Rand, states int) []api.State {
	d := make([]api.State, states)
	for i := range d {
		d[i].Final = r.IntN(3) == 0
		for at := r.IntN(100); at < 256; {
			hi := min(255, at+r.IntN(90))
			d[i].Arcs = append(d[i].Arcs, api.Arc{Lo: at, Hi: hi, To: r.IntN(states)})
			// Every other arc stands side by side with the one ahead of it.
			at = hi + 1 + r.IntN(2)*r.IntN(60)
		}
	}
	return d
}

// someLoose answers so many loose states, likewise.
func someLoose(r *rand.Rand, states int) []api.Loose {
	n := make([]api.Loose, states)
	for i := range n {
		n[i].Final = r.IntN(4) == 0
		for range r.IntN(4) {
			lo := r.IntN(256)
			n[i].Arcs = append(n[i].Arcs, api.Arc{Lo: lo, Hi: min(255, lo+r.IntN(100)*r.IntN(2)), To: r.IntN(states)})
		}
		for range r.IntN(3) * r.IntN(2) {
			n[i].Free = append(n[i].Free, r.IntN(states))
		}
	}
	return n
}

// smallStates goes over all automata of so many states by the bytes a and b, which lead by an arc each.
func smallStates(states int, do func(d []api.State)) {
	each := 2 * (states + 1) * (states + 1)
	all := 1
	for range states {
		all *= each
	}
	for i := range all {
		d := make([]api.State, states)
		for k := range d {
			x := i % each
			i /= each
			d[k].Final = x%2 == 1
			x /= 2
			for c := range 2 {
				if to := x % (states + 1); to < states {
					d[k].Arcs = append(d[k].Arcs, api.Arc{Lo: 'a' + c, Hi: 'a' + c, To: to})
				}
				x /= states + 1
			}
		}
		do(d)
	}
}

// smallLoose goes over all pairs of loose states by the bytes a and b, and by nothing.
func smallLoose(do func(n []api.Loose)) {
	for i := range 1 << 14 {
		n := make([]api.Loose, 2)
		for k := range n {
			x := i >> (7 * k)
			n[k].Final = x&1 == 1
			for to := range 2 {
				if x>>(1+to)&1 == 1 {
					n[k].Free = append(n[k].Free, to)
				}
				for c := range 2 {
					if x>>(3+2*c+to)&1 == 1 {
						n[k].Arcs = append(n[k].Arcs, api.Arc{Lo: 'a' + c, Hi: 'a' + c, To: to})
					}
				}
			}
		}
		do(n)
	}
}
