package dfa_test

import (
	"fmt"
	"math"
	"math/rand/v2"
	"reflect"
	"slices"
	"strings"
	"testing"

	"gloss/api"
	"gloss/dfa"
)

func arc(lo, hi, to int) api.Arc { return api.Arc{Lo: lo, Hi: hi, To: to} }

func final(arcs ...api.Arc) api.State { return api.State{Final: true, Arcs: arcs} }

func state(arcs ...api.Arc) api.State { return api.State{Arcs: arcs} }

// taking answers an automaton that takes just one text.
func taking(s string) []api.State {
	d := make([]api.State, len(s)+1)
	for i := range len(s) {
		d[i].Arcs = []api.Arc{arc(int(s[i]), int(s[i]), i+1)}
	}
	d[len(s)].Final = true
	return d
}

// loosely answers an automaton as loose states.
func loosely(d []api.State) []api.Loose {
	var n []api.Loose
	for _, s := range d {
		n = append(n, api.Loose{Final: s.Final, Arcs: s.Arcs})
	}
	return n
}

// chain answers so many states, each of which leads by any byte to the next one; the last one is Final.
func chain(states int) []api.State {
	d := make([]api.State, states)
	for i := range states - 1 {
		d[i].Arcs = []api.Arc{arc(0, 255, i+1)}
	}
	d[states-1].Final = true
	return d
}

// ring answers so many states, each of which leads by any byte to the next one, the last one to the first, which is Final.
func ring(states int) []api.State {
	d := make([]api.State, states)
	for i := range states {
		d[i].Arcs = []api.Arc{arc(0, 255, (i+1)%states)}
	}
	d[0].Final = true
	return d
}

// wrongArcs are arcs each list of which has one that none of three states may have.
func wrongArcs() [][]api.Arc {
	var lists [][]api.Arc
	for _, a := range []api.Arc{
		arc(-1, 5, 0), arc(-1, -1, 0), arc(math.MinInt, 255, 0), arc(math.MinInt, math.MinInt, 0), arc(math.MinInt, math.MaxInt, 0),
		arc(0, 256, 0), arc(255, 256, 0), arc(256, 256, 0), arc(0, math.MaxInt, 0), arc(math.MaxInt, math.MaxInt, 0),
		arc(5, 4, 0), arc(255, 0, 0), arc(1, 0, 0), arc(0, -1, 0), arc(0, math.MinInt, 0), arc(math.MaxInt, math.MinInt, 0),
		arc(0, 255, 3), arc(0, 255, 4), arc(7, 7, math.MaxInt), arc(0, 255, -1), arc(7, 7, math.MinInt),
	} {
		lists = append(lists, []api.Arc{a}, []api.Arc{a, arc(9, 9, 1), arc(10, 20, 2)}, []api.Arc{arc(0, 0, 2), a, arc(250, 255, 1)}, []api.Arc{arc(0, 0, 2), arc(3, 3, 1), a})
	}
	return lists
}

// notRising are arcs that may be in any other order, or apart.
func notRising() [][]api.Arc {
	return [][]api.Arc{
		{arc(0, 5, 0), arc(5, 6, 1)}, {arc(0, 5, 0), arc(5, 6, 0)}, {arc(7, 7, 2), arc(7, 7, 2)}, {arc(7, 7, 2), arc(7, 7, 1)},
		{arc(0, 255, 0), arc(0, 255, 0)}, {arc(0, 255, 0), arc(3, 4, 1)}, {arc(3, 4, 1), arc(0, 255, 0)}, {arc(6, 9, 0), arc(0, 5, 1)},
		{arc(255, 255, 0), arc(0, 0, 0)}, {arc(0, 0, 0), arc(0, 0, 0)}, {arc(1, 2, 0), arc(3, 4, 0), arc(4, 4, 0)},
		{arc(1, 2, 0), arc(9, 9, 1), arc(3, 4, 2)}, {arc(1, 9, 0), arc(10, 20, 1), arc(5, 5, 2)},
	}
}

// placedIn answers lists of three states, of which one has these arcs.
func placedIn(arcs []api.Arc) [][]api.State {
	var lists [][]api.State
	for i := range 3 {
		d := []api.State{final(arc('a', 'b', 1)), final(arc('a', 'a', 2), arc('b', 'c', 0)), final()}
		d[i].Arcs = arcs
		lists = append(lists, d)
	}
	return lists
}

// noAutomata are lists that are none, with what Check answers.
func noAutomata() (lists [][]api.State, errors []api.Errno) {
	add := func(e api.Errno, d []api.State) {
		lists, errors = append(lists, d), append(errors, e)
	}
	add(api.ErrInput, nil)
	add(api.ErrInput, []api.State{})
	add(api.ErrInput, make([]api.State, 0, 5))
	add(api.ErrMany, make([]api.State, api.MaxStates+1))
	add(api.ErrMany, ring(api.MaxStates+1))
	add(api.ErrMany, slices.Repeat([]api.State{final(arc(5, 4, -1))}, api.MaxStates+1))
	for _, arcs := range slices.Concat(wrongArcs(), notRising()) {
		for _, d := range placedIn(arcs) {
			add(api.ErrForm, d)
		}
	}
	add(api.ErrForm, []api.State{final(arc(0, 255, 1))})
	add(api.ErrForm, append(ring(api.MaxStates-1), state(arc(5, 4, 0))))
	add(api.ErrForm, append(chain(api.MaxStates-1), final(arc(0, 0, api.MaxStates))))
	return lists, errors
}

// automata are such of all kinds.
func automata() [][]api.State {
	lists := [][]api.State{
		{{}}, {final()}, {state(arc(0, 255, 0))}, {final(arc(0, 255, 0))}, {final(arc('a', 'a', 0))},
		taking("fox"), taking("\x00\xff"), ring(3), chain(5),
		{state(arc(0, 5, 1), arc(6, 6, 2), arc(7, 255, 1)), final(), state(arc(0, 0, 2))},
		{final(arc(0, 127, 0), arc(128, 255, 0))}, {final(arc(0, 0, 0), arc(255, 255, 0))},
		{state(), final()}, {state(arc(3, 3, 0), arc(4, 4, 1)), state(arc(9, 9, 0)), final(arc(1, 1, 0))},
		make([]api.State, 40), slices.Repeat([]api.State{final(arc('a', 'z', 3))}, 7),
	}
	r := rand.New(rand.NewPCG(8, 1))
	for states := range 10 {
		lists = append(lists, someStates(r, states+1))
	}
	return lists
}

// 8.1: what may be.
func TestCheck(t *testing.T) {
	for _, d := range append(automata(), make([]api.State, api.MaxStates), ring(api.MaxStates), chain(api.MaxStates)) {
		if e := dfa.Check(d); e != api.OK {
			t.Errorf("Check of %d states, %v ..: error %d", len(d), d[:min(len(d), 10)], e)
		}
	}
}

// 8.1: what may not be, the error that is named first ahead.
func TestCheckRefuses(t *testing.T) {
	lists, errors := noAutomata()
	for i, d := range lists {
		if e := dfa.Check(d); e != errors[i] {
			t.Errorf("Check of %d states, %v ..: error %d, want %d", len(d), d[:min(len(d), 10)], e, errors[i])
		}
	}
}

// steps tells of a byte that doesn't lead where it should.
func steps(t *testing.T, d []api.State, state int, c byte, want int) {
	t.Helper()
	if got := dfa.Step(d, state, c); got != want {
		t.Errorf("Step(%v, %d, %d) = %d, want %d", d[:min(len(d), 10)], state, c, got, want)
	}
}

// 8.1: each state and each byte of automata.
func TestStep(t *testing.T) {
	d := []api.State{state(arc(0, 0, 2), arc('a', 'c', 1), arc('d', 'd', 0)), final(arc(0, 255, 2)), state(arc(255, 255, 0))}
	for _, known := range []struct {
		state int
		c     byte
		to    int
	}{
		{0, 0, 2}, {0, 1, -1}, {0, 'a' - 1, -1}, {0, 'a', 1}, {0, 'b', 1}, {0, 'c', 1}, {0, 'd', 0}, {0, 'e', -1}, {0, 255, -1},
		{1, 0, 2}, {1, 100, 2}, {1, 255, 2}, {2, 0, -1}, {2, 254, -1}, {2, 255, 0},
	} {
		steps(t, d, known.state, known.c, known.to)
	}
	for _, d := range automata() {
		m := ofStates(d)
		for i := range d {
			for c := range 256 {
				steps(t, d, i, byte(c), m.step(i, c))
			}
		}
	}
}

// 8.1: states that do not exist.
func TestStepOfNoState(t *testing.T) {
	for _, d := range append(automata(), nil, []api.State{}, ring(4)[:2]) {
		for _, i := range []int{-1, -2, math.MinInt, len(d), len(d) + 1, 1 << 32, math.MaxInt} {
			for _, c := range []byte{0, 'a', 255} {
				steps(t, d, i, c, -1)
			}
		}
	}
}

// 8.1: the first arc counts, of lists too that are no automata, wherever it leads.
func TestStepOfAnyList(t *testing.T) {
	d := []api.State{
		state(arc('b', 'd', 7), arc('a', 'z', -5), arc('c', 'c', 1), arc(-9, 300, math.MaxInt)),
		state(arc(5, 4, 1), arc(4, 4, 9), arc(math.MinInt, 3, math.MinInt), arc(200, math.MaxInt, -2), arc(256, 400, 3), arc(-3, -1, 3)),
	}
	for _, known := range []struct {
		state int
		c     byte
		to    int
	}{
		{0, 'b', 7}, {0, 'c', 7}, {0, 'd', 7}, {0, 'a', -5}, {0, 'e', -5}, {0, 'z', -5}, {0, 0, math.MaxInt}, {0, 255, math.MaxInt},
		{1, 5, -1}, {1, 4, 9}, {1, 3, math.MinInt}, {1, 0, math.MinInt}, {1, 199, -1}, {1, 200, -2}, {1, 255, -2},
	} {
		steps(t, d, known.state, known.c, known.to)
	}
	many := make([]api.State, api.MaxStates+2)
	many[api.MaxStates+1] = state(arc(1, 1, 5))
	steps(t, many, api.MaxStates+1, 1, 5)
	steps(t, many, api.MaxStates+1, 2, -1)
}

// takes tells of a text that is taken and shouldn't be, or the other way round.
func takes(t *testing.T, d []api.State, s string, want bool) {
	t.Helper()
	if got := dfa.Accepts(d, s); got != want {
		t.Errorf("Accepts(%v, %.50q) = %v", d[:min(len(d), 10)], s, got)
	}
}

// eachText goes over all texts of up to so many of some bytes.
func eachText(most int, letters string, do func(s string)) {
	list := []string{""}
	for i := 0; i < len(list); i++ {
		do(list[i])
		for k := 0; k < len(letters) && len(list[i]) < most; k++ {
			list = append(list, list[i]+letters[k:k+1])
		}
	}
}

// 8.1: the bytes lead from the start to a Final state.
func TestAccepts(t *testing.T) {
	for _, s := range []string{"", "f", "fo", "fo\x00", "fox ", "foxfox", "ox", "Fox"} {
		takes(t, taking("fox"), s, false)
		takes(t, taking(s), s, true)
	}
	takes(t, taking("fox"), "fox", true)
	takes(t, taking("\x00\xff"), "\x00\xff", true)
	takes(t, []api.State{{}}, "", false)
	takes(t, []api.State{final()}, "", true)
	takes(t, []api.State{final()}, "\x00", false)
	// The start alone counts as such, wherever it is led to.
	takes(t, []api.State{state(arc('a', 'a', 1)), final(arc('b', 'b', 0))}, "ab", false)
	takes(t, []api.State{state(arc('a', 'a', 1)), final(arc('b', 'b', 0))}, "aba", true)
	// A byte that leads nowhere ends it, whatever stands behind.
	takes(t, []api.State{final(arc('a', 'a', 0))}, "aaba", false)
	takes(t, ring(7), strings.Repeat("\xff", 7000), true)
	takes(t, ring(7), strings.Repeat("\xff", 7001), false)
	takes(t, chain(api.MaxStates), strings.Repeat("x", api.MaxStates-1), true)
	takes(t, chain(api.MaxStates), strings.Repeat("x", api.MaxStates), false)
	for _, d := range automata() {
		m := ofStates(d)
		eachText(4, "\x00a\x80\xff", func(s string) {
			at := 0
			for i := 0; i < len(s) && at >= 0; i++ {
				at = m.step(at, int(s[i]))
			}
			takes(t, d, s, at >= 0 && m.final(at))
		})
	}
}

// 8.1: what is no automaton takes nothing, even where the fault is never come to.
func TestAcceptsOfNoAutomaton(t *testing.T) {
	lists, _ := noAutomata()
	for _, d := range lists {
		for _, s := range []string{"", "a", "b", "\x05", "\x07", "ab", "aa", "aaa"} {
			takes(t, d, s, false)
		}
	}
	takes(t, []api.State{final(), state(arc(5, 4, 0))}, "", false)
}

// isRefused tells of an answer that isn't this error alone.
func isRefused(t *testing.T, name string, d []api.State, e, want api.Errno) {
	t.Helper()
	if e != want || len(d) != 0 {
		t.Errorf("%s: %v .., error %d, want error %d", name, d[:min(len(d), 10)], e, want)
	}
}

// isJust tells of an answer that isn't this automaton.
func isJust(t *testing.T, name string, d []api.State, e api.Errno, want ...api.State) {
	t.Helper()
	if e != api.OK || !alike(d, want) {
		t.Errorf("%s: %d states, %v .., error %d, want %d, %v ..", name, len(d), d[:min(len(d), 10)], e, len(want), want[:min(len(want), 10)])
	}
}

// alike tells whether states are, element by element.
func alike(a, b []api.State) bool {
	return slices.EqualFunc(a, b, func(x, y api.State) bool { return x.Final == y.Final && slices.Equal(x.Arcs, y.Arcs) })
}

// 8.2: the chapter's example, and others by answers written out.
func TestTight(t *testing.T) {
	n := []api.Loose{{Arcs: []api.Arc{arc('a', 'a', 0), arc('b', 'b', 0)}, Free: []int{1}}, {Arcs: []api.Arc{arc('c', 'c', 2)}}, {Final: true}}
	d, e := dfa.Tight(n, 2)
	isJust(t, "the example", d, e, state(arc('a', 'b', 0), arc('c', 'c', 1)), final())
	for name, known := range map[string]struct {
		n    []api.Loose
		want []api.State
	}{
		"one state": {[]api.Loose{{}}, []api.State{{}}},
		"one Final": {[]api.Loose{{Final: true}}, []api.State{final()}},
		"to itself": {[]api.Loose{{Final: true, Arcs: []api.Arc{arc(128, 255, 0), arc(0, 127, 0)}, Free: []int{0, 0}}}, []api.State{final(arc(0, 255, 0))}},
		"no Final":  {[]api.Loose{{Arcs: []api.Arc{arc(0, 255, 1)}, Free: []int{1}}, {Arcs: []api.Arc{arc(3, 3, 0)}}}, []api.State{{}}},
		// Final by nothing, over a ring.
		"a ring":      {[]api.Loose{{Free: []int{1}}, {Free: []int{2}}, {Free: []int{0, 3}}, {Final: true}}, []api.State{final()}},
		"other way":   {[]api.Loose{{Final: true}, {Free: []int{0}, Arcs: []api.Arc{arc(0, 255, 0)}}}, []api.State{final()}},
		"by nothing":  {[]api.Loose{{Arcs: []api.Arc{arc(1, 1, 1)}}, {Free: []int{2}}, {Free: []int{3}}, {Final: true, Arcs: []api.Arc{arc(2, 2, 0)}}}, []api.State{state(arc(1, 1, 1)), final(arc(2, 2, 0))}},
		"any order":   {[]api.Loose{{Arcs: []api.Arc{arc(9, 9, 1), arc(5, 5, 1), arc(6, 8, 1), arc(0, 0, 1)}}, {Final: true}}, []api.State{state(arc(0, 0, 1), arc(5, 9, 1)), final()}},
		"overlapping": {[]api.Loose{{Arcs: []api.Arc{arc(0, 9, 1), arc(5, 20, 2), arc(7, 7, 1), arc(7, 7, 1)}}, {Final: true}, {Arcs: []api.Arc{arc('x', 'x', 1)}}}, []api.State{state(arc(0, 4, 1), arc(5, 9, 2), arc(10, 20, 3)), final(), final(arc('x', 'x', 1)), state(arc('x', 'x', 1))}},
		// The least one has neither the state behind 1 nor two for 2 and 3.
		"made least": {[]api.Loose{{Arcs: []api.Arc{arc(1, 1, 1), arc(2, 2, 2), arc(3, 3, 3)}}, {Arcs: []api.Arc{arc(0, 255, 1)}}, {Final: true}, {Final: true}}, []api.State{state(arc(2, 3, 1)), final()}},
	} {
		d, e := dfa.Tight(known.n, 10)
		isJust(t, name, d, e, known.want...)
	}
}

// 8.2: what may not be, whatever most says; the same arcs in any order may.
func TestTightRefuses(t *testing.T) {
	for _, most := range []int{100, 1, 0, -1, math.MinInt, math.MaxInt} {
		name := fmt.Sprint("most ", most)
		for _, n := range [][]api.Loose{nil, {}, {{Final: true, Arcs: []api.Arc{arc(1, 1, 1)}}}} {
			d, e := dfa.Tight(n, most)
			isRefused(t, name, d, e, api.ErrForm)
		}
		for _, arcs := range wrongArcs() {
			for _, d := range placedIn(arcs) {
				d, e := dfa.Tight(loosely(d), most)
				isRefused(t, fmt.Sprint(name, arcs), d, e, api.ErrForm)
			}
		}
		for _, free := range [][]int{{3}, {-1}, {math.MaxInt}, {math.MinInt}, {0, 3}, {-1, 2}, {1, 1, 4, 1}} {
			for i := range 3 {
				n := []api.Loose{{Final: true}, {}, {Free: []int{0}}}
				n[i].Free = free
				d, e := dfa.Tight(n, most)
				isRefused(t, fmt.Sprint(name, n), d, e, api.ErrForm)
			}
		}
	}
	for _, arcs := range notRising() {
		for _, d := range placedIn(arcs) {
			n := loosely(d)
			d, e := dfa.Tight(n, 100)
			isLeastOf(t, fmt.Sprint(n), d, e, ofLoose(n), arcsOfLoose(n))
		}
	}
}

// isTight tells of loose states that are made tight otherwise than the chapter tells, or of more or less sets than there are.
func isTight(t *testing.T, n []api.Loose) {
	t.Helper()
	name, m := fmt.Sprint(n), ofLoose(n)
	most := met(m, ends(arcsOfLoose(n)...))
	d, e := dfa.Tight(n, most)
	isLeastOf(t, name, d, e, m, arcsOfLoose(n))
	again, e := dfa.Tight(n, math.MaxInt)
	isJust(t, name, again, e, d...)
	d, e = dfa.Tight(n, most-1)
	isRefused(t, fmt.Sprint(name, " of ", most-1), d, e, api.ErrMany)
}

// 8.2, 8.5: all pairs of loose states by two bytes.
func TestTightOfSmall(t *testing.T) {
	smallLoose(func(n []api.Loose) { isTight(t, n) })
}

// 8.2, 8.5: loose states with arcs of all kinds.
func TestTightOfSome(t *testing.T) {
	r := rand.New(rand.NewPCG(8, 2))
	for i := range 1500 {
		isTight(t, someLoose(r, 1+i%7))
	}
	for _, d := range automata() {
		isTight(t, loosely(d))
	}
}

// 8.2: just as many sets as most says, and one more; most of 0 and below, where there is always one.
func TestTightMost(t *testing.T) {
	// The byte a so many places ahead of the end: one set for each row of a and others.
	n := []api.Loose{{Arcs: []api.Arc{arc(0, 255, 0), arc('a', 'a', 1)}}}
	for i := range 9 {
		n = append(n, api.Loose{Arcs: []api.Arc{arc(0, 255, 2+i)}})
	}
	n = append(n, api.Loose{Final: true})
	d, e := dfa.Tight(n, 1024)
	if e != api.OK || len(d) != 1024 {
		t.Errorf("of 1024 sets: %d states, error %d", len(d), e)
	}
	takes(t, d, "xyza123456789", true)
	takes(t, d, "aaab123456789", false)
	for _, most := range []int{1023, 1000, 2, 1, 0, -1, -1024, math.MinInt} {
		d, e := dfa.Tight(n, most)
		isRefused(t, fmt.Sprint("most ", most), d, e, api.ErrMany)
	}
	for _, most := range []int{0, -1, math.MinInt} {
		d, e := dfa.Tight([]api.Loose{{}}, most)
		isRefused(t, fmt.Sprint("one set, most ", most), d, e, api.ErrMany)
	}
	d, e = dfa.Tight([]api.Loose{{}, {Final: true}, {Final: true}}, 1)
	isJust(t, "sets that aren't met", d, e, state())
}

// 8.2: sets are counted, not states of the answer; they may be more than an automaton may have states.
func TestTightOfMany(t *testing.T) {
	const states = api.MaxStates + 5000
	n := loosely(ring(states))
	for i := range n {
		n[i].Final = true
	}
	d, e := dfa.Tight(n, states)
	isJust(t, "a ring", d, e, final(arc(0, 255, 0)))
	d, e = dfa.Tight(n, states-1)
	isRefused(t, "a ring", d, e, api.ErrMany)
	d, e = dfa.Tight(loosely(chain(api.MaxStates)), api.MaxStates)
	isJust(t, "a chain", d, e, chain(api.MaxStates)...)
	// As most says so, and nothing else, the answer may be too long for Check.
	d, e = dfa.Tight(loosely(chain(states)), states)
	isJust(t, "a chain too long", d, e, chain(states)...)

	// One set of all: each state leads to the next one by nothing.
	for i := range n {
		n[i] = api.Loose{Free: []int{(i + 1) % states}}
	}
	n[77] = api.Loose{Final: true, Free: []int{78}, Arcs: []api.Arc{arc(3, 3, states-1)}}
	d, e = dfa.Tight(n, 1)
	isJust(t, "a ring by nothing", d, e, final(arc(3, 3, 0)))
}

// isBoth tells of two automata that meet otherwise than the chapter tells, or in more or less pairs than there are.
func isBoth(t *testing.T, a, b []api.State) {
	t.Helper()
	name, m := fmt.Sprint(a, " and ", b), ofPairs(a, b)
	arcs := slices.Concat(arcsOf(a), arcsOf(b))
	most := met(m, ends(arcs...))
	d, e := dfa.Both(a, b, most)
	isLeastOf(t, name, d, e, m, arcs)
	other, e := dfa.Both(b, a, math.MaxInt)
	isJust(t, name, other, e, d...)
	d, e = dfa.Both(a, b, most-1)
	isRefused(t, fmt.Sprint(name, " of ", most-1), d, e, api.ErrMany)
}

// 8.3: by answers written out.
func TestBoth(t *testing.T) {
	all, none := []api.State{final(arc(0, 255, 0))}, []api.State{{}}
	letters := []api.State{final(arc('a', 'm', 0), arc('n', 'z', 0))}
	for name, known := range map[string]struct{ a, b, want []api.State }{
		"all":        {all, all, all},
		"none":       {all, none, none},
		"none, all":  {none, all, none},
		"letters":    {all, letters, []api.State{final(arc('a', 'z', 0))}},
		"a word":     {taking("fox"), letters, taking("fox")},
		"two words":  {taking("fox"), taking("fax"), none},
		"overlap":    {[]api.State{final(arc(0, 9, 0), arc(20, 29, 0), arc(31, 31, 0))}, []api.State{final(arc(5, 22, 0), arc(28, 40, 0))}, []api.State{final(arc(5, 9, 0), arc(20, 22, 0), arc(28, 29, 0), arc(31, 31, 0))}},
		"rings":      {ring(2), ring(3), ring(6)},
		"only empty": {[]api.State{final(arc('a', 'a', 0))}, []api.State{final(arc('b', 'b', 0))}, []api.State{final()}},
	} {
		d, e := dfa.Both(known.a, known.b, 6)
		isJust(t, name, d, e, known.want...)
	}
}

// 8.3: of each place what may not be, whatever most says.
func TestBothRefuses(t *testing.T) {
	lists, _ := noAutomata()
	for i, wrong := range lists {
		for _, most := range []int{100, 0, -1, math.MaxInt} {
			for _, right := range [][]api.State{{{}}, {final(arc(0, 255, 0))}, taking("ab"), wrong} {
				d, e := dfa.Both(wrong, right, most)
				isRefused(t, fmt.Sprint("the first, ", i), d, e, api.ErrForm)
				d, e = dfa.Both(right, wrong, most)
				isRefused(t, fmt.Sprint("the second, ", i), d, e, api.ErrForm)
			}
		}
	}
}

// 8.3: just as many pairs as most says, and one more; most of 0 and below, where there is always one.
func TestBothMost(t *testing.T) {
	a, b := ring(100), ring(101)
	d, e := dfa.Both(a, b, 10100)
	isJust(t, "10100 pairs", d, e, ring(10100)...)
	for _, most := range []int{10099, 5000, 1, 0, -1, math.MinInt} {
		d, e := dfa.Both(a, b, most)
		isRefused(t, fmt.Sprint("most ", most), d, e, api.ErrMany)
	}
	for _, most := range []int{0, -1, math.MinInt} {
		d, e := dfa.Both([]api.State{{}}, []api.State{{}}, most)
		isRefused(t, fmt.Sprint("one pair, most ", most), d, e, api.ErrMany)
	}
	// Pairs are counted that lead nowhere; the empty one and those that aren't met are not.
	d, e = dfa.Both(taking("abc"), taking("abd"), 3)
	isJust(t, "abc and abd", d, e, state())
	d, e = dfa.Both(taking("abc"), taking("abd"), 2)
	isRefused(t, "abc and abd", d, e, api.ErrMany)
	long := chain(api.MaxStates)
	d, e = dfa.Both(long, long, api.MaxStates)
	isJust(t, "a chain", d, e, long...)
	d, e = dfa.Both(long, long, api.MaxStates-1)
	isRefused(t, "a chain", d, e, api.ErrMany)
}

// 8.3, 8.5: automata of up to two states by two bytes, each with each other one of its kind.
func TestBothOfSmall(t *testing.T) {
	var lists [][]api.State
	for states := range 2 {
		smallStates(states+1, func(d []api.State) { lists = append(lists, d) })
	}
	for i, a := range lists {
		for k := i % 7; k < len(lists); k += 7 {
			isBoth(t, a, lists[k])
		}
	}
}

// 8.3, 8.5: automata with arcs of all kinds.
func TestBothOfSome(t *testing.T) {
	r := rand.New(rand.NewPCG(8, 3))
	for i := range 500 {
		isBoth(t, someStates(r, 1+i%4), someStates(r, 1+i%5))
	}
	for _, a := range automata() {
		for _, b := range automata()[:16] {
			isBoth(t, a, b)
		}
	}
}

// 8.4: by answers written out.
func TestLeast(t *testing.T) {
	for name, known := range map[string]struct{ d, want []api.State }{
		"one state":      {[]api.State{{}}, []api.State{{}}},
		"one Final":      {[]api.State{final()}, []api.State{final()}},
		"nothing":        {[]api.State{state(arc(0, 255, 1)), state(arc(7, 7, 0))}, []api.State{{}}},
		"nothing is met": {[]api.State{state(arc(0, 255, 0)), final()}, []api.State{{}}},
		"everything":     {[]api.State{final(arc(0, 9, 1), arc(10, 255, 0)), final(arc(0, 254, 0), arc(255, 255, 1))}, []api.State{final(arc(0, 255, 0))}},
		// Side by side and to one state: one arc; to two, or not side by side: two.
		"side by side": {[]api.State{state(arc('a', 'a', 1), arc('b', 'b', 1), arc('c', 'c', 2), arc('e', 'e', 2)), final(), state(arc('x', 'x', 1))}, []api.State{state(arc('a', 'b', 1), arc('c', 'c', 2), arc('e', 'e', 2)), final(), state(arc('x', 'x', 1))}},
		"made alike":   {[]api.State{state(arc('a', 'a', 1), arc('b', 'b', 2), arc('d', 'd', 1)), final(), final()}, []api.State{state(arc('a', 'b', 1), arc('d', 'd', 1)), final()}},
		// An arc to where no Final state is reached goes, and what stands beside it stays apart.
		"dead between": {[]api.State{final(arc(1, 1, 0), arc(2, 2, 1), arc(3, 3, 0)), state(arc(0, 255, 1))}, []api.State{final(arc(1, 1, 0), arc(3, 3, 0))}},
		"dead or none": {[]api.State{state(arc(1, 1, 1), arc(2, 2, 2)), final(arc(5, 5, 3)), final(), state(arc(5, 5, 3))}, []api.State{state(arc(1, 2, 1)), final()}},
		"never met":    {[]api.State{state(arc(1, 1, 3)), final(arc(1, 1, 0)), state(arc(2, 2, 2)), final()}, []api.State{state(arc(1, 1, 1)), final()}},
		// 0 leads to 4 and 2, 4 to 1, 2 to 3: state by state, not each way to its end.
		"the order": {
			[]api.State{state(arc(1, 1, 4), arc(2, 2, 2)), final(arc(1, 1, 0)), state(arc(5, 5, 3)), final(arc(6, 6, 3)), state(arc(0, 0, 1))},
			[]api.State{state(arc(1, 1, 1), arc(2, 2, 2)), state(arc(0, 0, 3)), state(arc(5, 5, 4)), final(arc(1, 1, 0)), final(arc(6, 6, 4))},
		},
		"the start again": {[]api.State{final(arc('a', 'a', 1)), state(arc('a', 'a', 2)), final(arc('a', 'a', 3)), state(arc('a', 'a', 0))}, []api.State{final(arc('a', 'a', 1)), state(arc('a', 'a', 0))}},
	} {
		d, e := dfa.Least(known.d)
		isJust(t, name, d, e, known.want...)
	}
}

// 8.4: what is no automaton, for whatever reason.
func TestLeastRefuses(t *testing.T) {
	lists, _ := noAutomata()
	for i, wrong := range lists {
		d, e := dfa.Least(wrong)
		isRefused(t, fmt.Sprint(i), d, e, api.ErrForm)
	}
}

// isMadeLeast tells of an automaton that is made least otherwise than the chapter tells.
func isMadeLeast(t *testing.T, d []api.State) {
	t.Helper()
	least, e := dfa.Least(d)
	isLeastOf(t, fmt.Sprint(d), least, e, ofStates(d), arcsOf(d))
	again, e := dfa.Least(least)
	isJust(t, fmt.Sprint(d, " twice"), again, e, least...)
}

// 8.4, 8.5: all automata of up to three states by two bytes.
func TestLeastOfSmall(t *testing.T) {
	for states := range 3 {
		smallStates(states+1, func(d []api.State) { isMadeLeast(t, d) })
	}
}

// 8.4, 8.5: automata with arcs of all kinds, and such in which states stand twice or more often.
func TestLeastOfSome(t *testing.T) {
	r := rand.New(rand.NewPCG(8, 4))
	for i := range 600 {
		isMadeLeast(t, someStates(r, 1+i%10))
	}
	for _, d := range automata() {
		isMadeLeast(t, d)
	}
	for i := range 200 {
		d := someStates(r, 2+i%5)
		least, e := dfa.Least(d)
		many, e2 := dfa.Least(severalTimes(r, d, 5))
		if e != api.OK || e2 != api.OK || !alike(least, many) {
			t.Errorf("%v: %v, error %d; with states several times: %v, error %d", d, least, e, many, e2)
		}
	}
}

// severalTimes answers an automaton with each state so many times, to any of which an arc may lead, by whatever part of it.
func severalTimes(r *rand.Rand, d []api.State, times int) []api.State {
	var many []api.State
	for i := range len(d) * times {
		s := api.State{Final: d[i%len(d)].Final}
		for _, a := range d[i%len(d)].Arcs {
			for lo := a.Lo; lo <= a.Hi; {
				hi := lo + r.IntN(a.Hi-lo+1)
				s.Arcs = append(s.Arcs, arc(lo, hi, a.To+len(d)*r.IntN(times)))
				lo = hi + 1
			}
		}
		many = append(many, s)
	}
	return many
}

// 8.4: as many states as an automaton may have: none of them needless, and all alike.
func TestLeastOfMany(t *testing.T) {
	long := chain(api.MaxStates)
	d, e := dfa.Least(long)
	isJust(t, "a chain", d, e, long...)
	d, e = dfa.Least(ring(api.MaxStates))
	isJust(t, "a ring", d, e, ring(api.MaxStates)...)
	alike := ring(api.MaxStates)
	for i := range alike {
		alike[i].Final = true
	}
	d, e = dfa.Least(alike)
	isJust(t, "all alike", d, e, final(arc(0, 255, 0)))
	for i := range alike {
		alike[i].Final = i%5 == 0
	}
	d, e = dfa.Least(alike)
	isJust(t, "every fifth Final", d, e, ring(5)...)
	d, e = dfa.Least(make([]api.State, api.MaxStates))
	isJust(t, "nothing", d, e, state())
	// Arcs of all bytes, one by one, to a state each.
	wide := make([]api.State, api.MaxStates)
	for i := range wide {
		wide[i].Final = true
		for c := range 256 {
			wide[i].Arcs = append(wide[i].Arcs, arc(c, c, (i*7+c)%api.MaxStates))
		}
	}
	d, e = dfa.Least(wide)
	isJust(t, "wide", d, e, final(arc(0, 255, 0)))
}

// answers are the answers of all calls of a kind, for arguments that are made anew.
func answers() map[string]func() []api.State {
	told := func(d []api.State, e api.Errno) []api.State {
		if e != api.OK {
			return nil
		}
		return d
	}
	word := []api.State{state(arc('f', 'f', 1), arc('g', 'g', 1), arc('x', 'x', 2)), state(arc('o', 'o', 2), arc('p', 'p', 0), arc('r', 'r', 1)), final(arc('z', 'z', 0))}
	ways := []api.Loose{{Arcs: []api.Arc{arc('f', 'g', 1), arc('g', 'h', 2)}}, {Arcs: []api.Arc{arc('o', 'o', 2)}, Free: []int{2, 0}}, {Final: true, Arcs: []api.Arc{arc('z', 'z', 1)}}}
	letters := []api.State{final(arc('a', 'n', 0), arc('o', 'z', 0))}
	return map[string]func() []api.State{
		"Tight":            func() []api.State { return told(dfa.Tight(ways, 50)) },
		"Both":             func() []api.State { return told(dfa.Both(word, letters, 50)) },
		"Both with itself": func() []api.State { return told(dfa.Both(word, word, 50)) },
		"Least":            func() []api.State { return told(dfa.Least(word)) },
		"Least of least":   func() []api.State { return told(dfa.Least(letters)) },
		"Least of nothing": func() []api.State { return told(dfa.Least([]api.State{{}})) },
		"Tight of nothing": func() []api.State { return told(dfa.Tight([]api.Loose{{}}, 1)) },
	}
}

// copyOf answers states with lists of their own.
func copyOf(d []api.State) []api.State {
	out := make([]api.State, len(d))
	for i, s := range d {
		out[i] = api.State{Final: s.Final, Arcs: slices.Clone(s.Arcs)}
	}
	return out
}

// Rule 4: what is answered is new memory, spare room included: what is written there no other answer shows, nor another list of it.
func TestNewMemory(t *testing.T) {
	for name, ask := range answers() {
		first, second := ask(), ask()
		want := copyOf(second)
		if len(want) == 0 {
			t.Errorf("%s answers nothing", name)
		}
		for i := range first {
			scrawl(first[i].Arcs, arc(-9, -9, -9))
			first[i].Arcs = append(first[i].Arcs, arc(-8, -8, -8))
			if !alike(first[i+1:], want[i+1:]) {
				t.Errorf("%s: what is written into state %d shows in others: %v", name, i, first)
			}
		}
		scrawl(first, final(arc(-7, -7, -7)))
		_ = append(first, final(arc(-6, -6, -6)))
		if third := ask(); !alike(second, want) || !alike(third, want) {
			t.Errorf("%s: %v, and asked again %v, want %v", name, second, third, want)
		}
	}
}

// roomy answers states with spare room in each list, in which something stands.
func roomy(d []api.State) []api.State {
	out := make([]api.State, 0, len(d)+3)
	for _, s := range d {
		arcs := append(slices.Clone(s.Arcs), arc(-1, -2, -3), arc(-4, -5, -6))
		out = append(out, api.State{Final: s.Final, Arcs: arcs[:len(s.Arcs)]})
	}
	return append(out, final(arc(1, 2, 3)), state(arc(4, 5, 6)))[:len(d)]
}

// roomyLoose answers loose states likewise.
func roomyLoose(n []api.Loose) []api.Loose {
	out := make([]api.Loose, 0, len(n)+3)
	for _, s := range n {
		arcs := append(slices.Clone(s.Arcs), arc(-1, -2, -3), arc(-4, -5, -6))
		free := append(slices.Clone(s.Free), -7, -8)
		out = append(out, api.Loose{Final: s.Final, Arcs: arcs[:len(s.Arcs)], Free: free[:len(s.Free)]})
	}
	return append(out, api.Loose{Final: true}, api.Loose{Free: []int{5}})[:len(n)]
}

// bare answers all that a list of states has room for.
func bare(d []api.State) []api.State {
	var out []api.State
	for _, s := range d[:cap(d)] {
		out = append(out, api.State{Final: s.Final, Arcs: slices.Clone(s.Arcs[:cap(s.Arcs)])})
	}
	return out
}

// bareLoose answers all that a list of loose states has room for.
func bareLoose(n []api.Loose) []api.Loose {
	var out []api.Loose
	for _, s := range n[:cap(n)] {
		out = append(out, api.Loose{Final: s.Final, Arcs: slices.Clone(s.Arcs[:cap(s.Arcs)]), Free: slices.Clone(s.Free[:cap(s.Free)])})
	}
	return out
}

// Rule 4: what is handed in isn't changed, spare room included, and isn't kept.
func TestArgumentsAreLeft(t *testing.T) {
	r := rand.New(rand.NewPCG(8, 5))
	for i := range 100 {
		a, b := roomy(someStates(r, 1+i%6)), roomy(someStates(r, 1+i%4))
		n := roomyLoose(someLoose(r, 1+i%6))
		wantA, wantB, wantN := bare(a), bare(b), bareLoose(n)
		dfa.Check(a)
		dfa.Step(a, 0, 'a')
		dfa.Accepts(a, "abc")
		both, _ := dfa.Both(a, b, 1000)
		least, _ := dfa.Least(a)
		tight, _ := dfa.Tight(n, 1000)
		if !reflect.DeepEqual(bare(a), wantA) || !reflect.DeepEqual(bare(b), wantB) || !reflect.DeepEqual(bareLoose(n), wantN) {
			t.Errorf("%v, %v, %v: changed", wantA, wantB, wantN)
		}
		keptBoth, keptLeast, keptTight := copyOf(both), copyOf(least), copyOf(tight)
		for _, s := range slices.Concat(a[:cap(a)], b[:cap(b)]) {
			scrawl(s.Arcs, arc(99, 99, 99))
		}
		for _, s := range n[:cap(n)] {
			scrawl(s.Arcs, arc(99, 99, 99))
			scrawl(s.Free, 99)
		}
		scrawl(a, final(arc(98, 98, 98)))
		scrawl(b, final(arc(98, 98, 98)))
		scrawl(n, api.Loose{Final: true})
		if !alike(both, keptBoth) || !alike(least, keptLeast) || !alike(tight, keptTight) {
			t.Errorf("%v, %v, %v: answers show what was written into them later", wantA, wantB, wantN)
		}
	}
}

// scrawl writes something into a list, spare room included.
func scrawl[T any](list []T, what T) {
	for i := range list[:cap(list)] {
		list[:cap(list)][i] = what
	}
}

// Rule 6: the same is answered each time.
func TestAnswersAgain(t *testing.T) {
	r := rand.New(rand.NewPCG(8, 6))
	for i := range 50 {
		n, d := someLoose(r, 1+i%8), someStates(r, 2+i%20)
		tight, _ := dfa.Tight(n, 1000)
		least, _ := dfa.Least(d)
		for range 5 {
			again, e := dfa.Tight(n, 1000)
			isJust(t, "Tight", again, e, tight...)
			again, e = dfa.Least(d)
			isJust(t, "Least", again, e, least...)
		}
	}
}
