package walk_test

import (
	"fmt"
	"math"
	"math/rand/v2"
	"slices"
	"strings"
	"testing"

	"gloss/api"
	"gloss/dfa"
	"gloss/fst"
	"gloss/fuzzy"
	"gloss/wild"
)

// entry is one of a list.
func entry(term string, out int) api.Entry {
	return api.Entry{Term: term, Out: out}
}

// listOf answers terms in their order, each with the number that one is told for it.
func listOf(terms []string, out func(i int) int) []api.Entry {
	var list []api.Entry
	for i, term := range slices.Sorted(slices.Values(terms)) {
		list = append(list, entry(term, out(i)))
	}
	return list
}

// dictOf answers the dictionary of a list.
func dictOf(t *testing.T, list []api.Entry) *fst.Dict {
	t.Helper()
	s, e := fst.Build(list)
	if e != api.OK {
		t.Fatalf("Build of %d entries: error %d", len(list), e)
	}
	d, e := fst.Open(s)
	if e != api.OK {
		t.Fatalf("Open of %d entries: error %d", len(list), e)
	}
	return d
}

// notAhead answers the entries of which the terms aren't ahead of a text, each one tried.
func notAhead(list []api.Entry, s string) []api.Entry {
	var some []api.Entry
	for _, x := range list {
		if strings.Compare(x.Term, s) >= 0 {
			some = append(some, x)
		}
	}
	return some
}

// takenBy answers the entries of which an automaton takes the terms, each one tried.
func takenBy(list []api.Entry, a []api.State) []api.Entry {
	var some []api.Entry
	for _, x := range list {
		if dfa.Accepts(a, x.Term) {
			some = append(some, x)
		}
	}
	return some
}

// textsOf answers all texts of up to so many of some bytes.
func textsOf(letters string, most int) []string {
	list := []string{""}
	for i := 0; i < len(list) && len(list[i]) < most; i++ {
		for k := range len(letters) {
			list = append(list, list[i]+letters[k:k+1])
		}
	}
	return list
}

// near answers texts about a term: what begins it, what it begins, and what parts from it at each of its bytes, by one more,
// by one less, by the least byte and by the greatest, with what stood behind, with nothing there, and with more.
func near(term string) []string {
	list := []string{term, term + "\x00", term + "\x00\x00", term + "a", term + "\xff", term + term, term + strings.Repeat("\xff", 70)}
	for i := range len(term) {
		list = append(list, term[:i], term[i:], term[:i]+term[i+1:])
		for _, c := range []byte{0, term[i] - 1, term[i] + 1, 255} {
			begin := term[:i] + string([]byte{c})
			list = append(list, begin, begin+term[i+1:], begin+"\x00", begin+"\xff", begin+term)
		}
	}
	return list
}

// texts are such to go from: the empty one, such as stand ahead of all terms and behind all, and about each of some terms.
func texts(list []api.Entry) []string {
	all := []string{"", "\x00", "\x00\x00", strings.Repeat("\x00", 65), "a", "m", "~", "\x7f", "\x80", "\xff", "\xff\xff", strings.Repeat("\xff", 64), strings.Repeat("\xff", 65), strings.Repeat("a", 1000)}
	for i := 0; i < len(list); i += 1 + len(list)/40 {
		all = append(all, near(list[i].Term)...)
	}
	return all
}

// lists are such as may be built, of each kind: no term and one, terms that begin one another, rests that are the same behind
// other beginnings and that differ in their numbers alone, short terms and long ones, all bytes, all kinds of numbers.
func lists() map[string][]api.Entry {
	long, longer := strings.Repeat("x", 63), strings.Repeat("\xff", 64)
	var bytes, pairs []string
	for c := range 256 {
		bytes = append(bytes, string([]byte{byte(c)}))
		pairs = append(pairs, string([]byte{byte(c), byte(255 - c)}))
	}
	zero := func(int) int { return 0 }
	index := func(i int) int { return i }
	falling := func(i int) int { return 1000 - i }
	wide := func(i int) int { return math.MaxInt - i*i }
	up := func(i int) int { return math.MaxInt * (i % 2) }
	words := []string{"car", "cars", "cat", "cats", "do", "dog", "dogs", "done", "hat", "hats", "heats", "x"}
	begun := []string{"a", "ab", "abc", "abcd", "b", "bc", "bcd"}
	letters := []string{"f", "fo", "fox", "foxes", "f\u00e9x", "f\u4e2dx", "fux", "box", "\u4e2d", "\u4e2d\u4e2d", "\u00e9", "\u00e9t\u00e9", "\U0001f600"}
	return map[string][]api.Entry{
		"nothing":            nil,
		"animals":            {entry("cat", 5), entry("dog", 7), entry("hat", 3)},
		"one":                {entry("fox", 9)},
		"one byte":           {entry("a", 0)},
		"one of a 0":         {entry("\x00", 1)},
		"one of a 255":       {entry("\xff", math.MaxInt)},
		"one long":           {entry(longer, 12345)},
		"long ones":          {entry(long, 3), entry(long+"w", 2), entry(long+"x", 1), entry(longer, 4)},
		"begun":              listOf(begun, index),
		"begun, falling":     listOf(begun, falling),
		"begun, alike":       listOf(begun, zero),
		"words":              listOf(words, index),
		"words, falling":     listOf(words, falling),
		"words, alike":       listOf(words, zero),
		"words, wide":        listOf(words, wide),
		"words, up and down": listOf(words, up),
		"letters":            listOf(letters, index),
		"letters, falling":   listOf(letters, falling),
		"zeros":              {entry("\x00", 4), entry("\x00\x00", 4), entry("\x00\x00\x00", 5), entry("\x00\x00\xff", 6), entry("\xff", 2), entry("\xff\x00", 1), entry("\xff\xff", 9)},
		"bytes":              listOf(bytes, index),
		"bytes, alike":       listOf(bytes, zero),
		"bytes, wide":        listOf(bytes, wide),
		"pairs":              listOf(pairs, falling),
		"bytes and pairs":    listOf(slices.Concat(bytes, pairs), up),
		"same rests":         {entry("ax", 5), entry("ay", 7), entry("bx", 15), entry("by", 17), entry("cx", 2), entry("cy", 4)},
		"same but numbers":   {entry("ax", 5), entry("ay", 7), entry("bx", 15), entry("by", 18), entry("cx", 7), entry("cy", 5)},
		"same, but one ends": {entry("a", 5), entry("ax", 6), entry("bx", 6), entry("c", 5), entry("cx", 7)},
		"great numbers":      {entry("a", math.MaxInt), entry("ab", 0), entry("b", math.MaxInt-1), entry("bc", math.MaxInt), entry("c", 1)},
		"greatest alone":     {entry("a", math.MaxInt), entry("ab", math.MaxInt), entry("b", math.MaxInt)},
		"no characters":      {entry("\x80", 1), entry("\xc0\x80", 2), entry("\xed\xa0\x80", 3)},
	}
}

// drawnList answers a list that may be built, drawn by numbers that are always the same: of few letters, so that terms have
// beginnings and rests in common.
func drawnList(r *rand.Rand) []api.Entry {
	letters := []string{"ab", "\x00\xff", "abc", "aeiou", "\x00\x01\x7f\x80\xfe\xff"}[r.IntN(5)]
	var terms []string
	for range r.IntN(30) {
		term := ""
		for range 1 + r.IntN(1+r.IntN(9)) {
			k := r.IntN(len(letters))
			term += letters[k : k+1]
		}
		terms = append(terms, term)
	}
	slices.Sort(terms)
	most := []int{1, 2, 100, math.MaxInt}[r.IntN(4)]
	return listOf(slices.Compact(terms), func(int) int { return r.IntN(most) })
}

func arc(lo, hi, to int) api.Arc { return api.Arc{Lo: lo, Hi: hi, To: to} }

func final(arcs ...api.Arc) api.State { return api.State{Final: true, Arcs: arcs} }

func state(arcs ...api.Arc) api.State { return api.State{Arcs: arcs} }

// taking answers an automaton that takes just one text.
func taking(s string) []api.State {
	d := make([]api.State, len(s)+1)
	for i := range len(s) {
		d[i].Arcs = []api.Arc{arc(int(s[i]), int(s[i]), i+1)}
	}
	d[len(s)].Final = true
	return d
}

// either answers an automaton that takes two texts.
func either(a, b string) []api.State {
	n := []api.Loose{{}}
	for _, s := range []string{a, b} {
		at := 0
		for i := range len(s) {
			n = append(n, api.Loose{})
			n[at].Arcs = append(n[at].Arcs, arc(int(s[i]), int(s[i]), len(n)-1))
			at = len(n) - 1
		}
		n[at].Final = true
	}
	d, _ := dfa.Tight(n, 1000)
	return d
}

// patterns answers the automata of some prefixes, patterns and words with edits.
func patterns() map[string][]api.State {
	all := map[string][]api.State{}
	for _, s := range []string{"c", "ca", "cat", "cats", "do", "f", "fo", "FOX", "h", "x", "xx", "zebra", "\u4e2d", "\u00e9"} {
		all["prefix "+s], _ = wild.Prefix(s)
	}
	for _, s := range []string{"*", "?", "??", "???", "?at", "*at", "*at*", "?at?", "c*", "*s", "*a*", "d?g*", "ab*", "*b*d", "f?x", "f*x*", "?\u4e2d?", "cat", "????????????????"} {
		all["pattern "+s], _ = wild.Wild(s)
	}
	for _, s := range []string{"cat", "hats", "a", "abc", "fox", "f\u4e2dx", "zebra"} {
		for edits := range 3 {
			for exact := range 2 {
				all[fmt.Sprint("word ", s, " ", edits, " ", exact)], _ = fuzzy.Fuzzy(s, edits, exact)
			}
		}
	}
	return all
}

// automata are such of all kinds.
func automata() map[string][]api.State {
	all := patterns()
	for name, d := range map[string][]api.State{
		"nothing":             {state()},
		"nothing, on and on":  {state(arc(0, 255, 0))},
		"nothing, a Final":    {state(arc(0, 255, 0)), final(arc(0, 255, 0))},
		"the empty text":      {final()},
		"empty, on and on":    {final(arc(0, 255, 1)), state(arc(0, 255, 1))},
		"everything":          {final(arc(0, 255, 0))},
		"all but empty":       {state(arc(0, 255, 1)), final(arc(0, 255, 1))},
		"one byte":            {state(arc(0, 255, 1)), final()},
		"two bytes":           {state(arc(0, 255, 1)), state(arc(0, 255, 2)), final()},
		"of even length":      {final(arc(0, 255, 1)), state(arc(0, 255, 0))},
		"of odd length":       {state(arc(0, 99, 1), arc(100, 255, 1)), final(arc(0, 255, 0))},
		"64 bytes":            append(slices.Repeat([]api.State{{}}, 64), final()),
		"zeros":               {final(arc(0, 0, 0))},
		"255s":                {final(arc(255, 255, 0))},
		"ends in 0":           {state(arc(0, 0, 1), arc(1, 255, 0)), final(arc(0, 0, 1), arc(1, 255, 0))},
		"ends in 255":         {state(arc(0, 254, 0), arc(255, 255, 1)), final(arc(0, 254, 0), arc(255, 255, 1))},
		"no 0":                {final(arc(1, 255, 0))},
		"no 255":              {final(arc(0, 254, 0))},
		"upper half":          {final(arc(128, 255, 0))},
		"all but c and d":     {final(arc(0, 'b', 0), arc('e', 255, 0))},
		"c or h, and not":     {state(arc('c', 'c', 1), arc('d', 'd', 2), arc('h', 'h', 1)), final(arc(0, 255, 1)), state(arc(0, 255, 2))},
		"not behind ca":       {final(arc(0, 'b', 0), arc('c', 'c', 1), arc('d', 255, 0)), final(arc('a', 'a', 2), arc('b', 255, 0)), state(arc(0, 255, 2))},
		"not least":           {final(arc(0, 9, 1), arc(10, 255, 2)), final(arc(0, 255, 2)), final(arc(0, 99, 1), arc(100, 255, 0))},
		"states never met":    {state(arc('c', 'h', 3)), final(arc(0, 255, 2)), state(arc(1, 1, 1)), final(arc('a', 'z', 3))},
		"back to the start":   {state(arc('a', 'c', 1)), final(arc('b', 'b', 0), arc('x', 'y', 0))},
		"as many as may be":   append(taking("cat"), make([]api.State, api.MaxStates-4)...),
		"the byte of another": taking("\xe9"),
	} {
		all[name] = d
	}
	for i := range 64 {
		all["64 bytes"][i].Arcs = []api.Arc{arc(0, 255, i+1)}
	}
	for _, s := range []string{"cat", "hat", "ca", "cats", "\x00", "\xff\x00", "ax", "cy", "abcd", strings.Repeat("\xff", 64), strings.Repeat("\xff", 65), strings.Repeat("x", 64)} {
		all["taking "+s] = taking(s)
	}
	return all
}

// noAutomata are lists of states that aren't any, each in one of the ways that chapter 8 names; each would take all texts, or
// some, if that weren't asked.
func noAutomata() map[string][]api.State {
	all := map[string][]api.State{
		"no list":         nil,
		"no state":        {},
		"room alone":      make([]api.State, 0, 5),
		"too many":        append([]api.State{final(arc(0, 255, 0))}, make([]api.State, api.MaxStates)...),
		"too many, a cat": append(taking("cat"), make([]api.State, api.MaxStates)...),
	}
	for name, arcs := range map[string][]api.Arc{
		"below 0":                {arc(-1, 5, 0)},
		"far below 0":            {arc(math.MinInt, 255, 0)},
		"above 255":              {arc(0, 256, 0)},
		"far above 255":          {arc(0, math.MaxInt, 0)},
		"all above 255":          {arc(256, 300, 0)},
		"Hi below Lo":            {arc(5, 4, 0)},
		"out by one":             {arc(7, 7, 2)},
		"far out":                {arc(7, 7, math.MaxInt)},
		"below all":              {arc(7, 7, -1)},
		"far below all":          {arc(7, 7, math.MinInt)},
		"out of order":           {arc(9, 9, 0), arc(5, 5, 0)},
		"twice the same":         {arc(5, 5, 0), arc(5, 5, 0)},
		"one in another":         {arc(0, 255, 0), arc(3, 4, 0)},
		"one upon another":       {arc(0, 5, 0), arc(5, 9, 0)},
		"in order, but the last": {arc(0, 5, 0), arc(10, 19, 0), arc(6, 9, 0)},
		"leads out behind":       {arc(0, 5, 0), arc(10, 19, 2)},
	} {
		all["the start: "+name] = []api.State{final(arcs...), final(arc(0, 255, 0))}
		all["another: "+name] = []api.State{final(arc(0, 255, 0)), final(arcs...)}
		all["on the way: "+name] = []api.State{final(arc(0, 255, 1)), final(slices.Concat(arcs)...)}
	}
	return all
}

// drawnStates answers an automaton of so many states, drawn by numbers that are always the same.
func drawnStates(r *rand.Rand, states int) []api.State {
	d := make([]api.State, states)
	for i := range d {
		d[i].Final = r.IntN(3) == 0
		for at := r.IntN(100); at < 256; {
			hi := min(255, at+r.IntN(90))
			d[i].Arcs = append(d[i].Arcs, arc(at, hi, r.IntN(states)))
			// Every other arc stands side by side with the one ahead of it.
			at = hi + 1 + r.IntN(2)*r.IntN(60)
		}
	}
	return d
}

// smallStates answers all automata of so many states by the bytes a and b, which lead by an arc each.
func smallStates(states int) [][]api.State {
	each := 2 * (states + 1) * (states + 1)
	all := 1
	for range states {
		all *= each
	}
	var list [][]api.State
	for i := range all {
		d := make([]api.State, states)
		for k := range d {
			x := i % each
			i /= each
			d[k].Final = x%2 == 1
			x /= 2
			for c := range 2 {
				if to := x % (states + 1); to < states {
					d[k].Arcs = append(d[k].Arcs, arc('a'+c, 'a'+c, to))
				}
				x /= states + 1
			}
		}
		list = append(list, d)
	}
	return list
}
