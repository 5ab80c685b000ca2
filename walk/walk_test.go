package walk_test

import (
	"fmt"
	"maps"
	"math"
	"math/rand/v2"
	"slices"
	"strings"
	"testing"

	"gloss/api"
	"gloss/dfa"
	"gloss/fst"
	"gloss/fuzzy"
	"gloss/walk"
	"gloss/wild"
)

// everything is an automaton.
var everything = []api.State{final(arc(0, 255, 0))}

// show answers a value's text, cut if it is long.
func show(v any) string {
	return fmt.Sprintf("%.150s", fmt.Sprintf("%q", fmt.Sprint(v)))
}

// told answers what From tells, until it has told so many.
func told(d *fst.Dict, s string, most int) []api.Entry {
	var list []api.Entry
	walk.From(d, s, func(x api.Entry) bool {
		list = append(list, x)
		return len(list) < most
	})
	return list
}

// isFrom tells of a text from which From tells other entries than these, or Ceil answers another one than the first of them.
func isFrom(t *testing.T, name string, d *fst.Dict, s string, want []api.Entry) {
	t.Helper()
	if got := told(d, s, math.MaxInt); !slices.Equal(got, want) {
		t.Errorf("%s: From(%.80q): %s, want %s", name, s, show(got), show(want))
	}
	var first api.Entry
	if len(want) > 0 {
		first = want[0]
	}
	if x, ok := walk.Ceil(d, s); x != first || ok != (len(want) > 0) {
		t.Errorf("%s: Ceil(%.80q) = %v, %v; want %v", name, s, x, ok, first)
	}
}

// isMatch tells of an automaton and a number for which Match doesn't answer the first so many of these, and whether there are
// more.
func isMatch(t *testing.T, name string, d *fst.Dict, a []api.State, most int, want []api.Entry) {
	t.Helper()
	size := min(max(most, 0), len(want))
	list, more := walk.Match(d, a, most)
	if !slices.Equal(list, want[:size]) || more != (size < len(want)) {
		t.Errorf("%s: Match of %d: %s, %v; want %s, %v", name, most, show(list), more, show(want[:size]), size < len(want))
	}
}

// isMatched tells of an automaton for which Match doesn't answer these, however many are asked for.
func isMatched(t *testing.T, name string, d *fst.Dict, a []api.State, want []api.Entry) {
	t.Helper()
	size := len(want)
	for _, most := range []int{math.MinInt, -size, -1, 0, 1, 2, size / 2, size - 1, size, size + 1, 2 * size, math.MaxInt} {
		isMatch(t, name, d, a, most, want)
	}
}

// 13.1, 13.2: the chapter's examples.
func TestExamples(t *testing.T) {
	cat, dog, hat := entry("cat", 5), entry("dog", 7), entry("hat", 3)
	d := dictOf(t, []api.Entry{cat, dog, hat})
	if x, ok := walk.Ceil(d, "d"); x != dog || !ok {
		t.Errorf("Ceil of d: %v, %v", x, ok)
	}
	if x, ok := walk.Ceil(d, "dogs"); x != hat || !ok {
		t.Errorf("Ceil of dogs: %v, %v", x, ok)
	}
	if x, ok := walk.Ceil(d, "hats"); x != (api.Entry{}) || ok {
		t.Errorf("Ceil of hats: %v, %v", x, ok)
	}
	a, _ := wild.Wild("?at")
	if list, more := walk.Match(d, a, 32); !slices.Equal(list, []api.Entry{cat, hat}) || more {
		t.Errorf("Match of ?at: %v, %v", list, more)
	}
	if list, more := walk.Match(d, a, 1); !slices.Equal(list, []api.Entry{cat}) || !more {
		t.Errorf("Match of ?at, at most 1: %v, %v", list, more)
	}
}

// 13.1: from texts of which it is written out how many terms are ahead of them.
func TestFrom(t *testing.T) {
	list := []api.Entry{entry("b", 4), entry("bat", 9), entry("bath", 0), entry("cat", 9), entry("d\x00", 2), entry("d\x00\xff", 1), entry("d\xff", 8)}
	d := dictOf(t, list)
	for s, ahead := range map[string]int{
		"": 0, "\x00": 0, "A": 0, "a": 0, "aat": 0, "bb": 3, "b": 0, "b\x00": 1, "ba": 1, "baa": 1, "bas": 1, "bas\xff": 1, "bat": 1, "bat\x00": 2, "bata": 2,
		"batg": 2, "batg\xff": 2, "bath": 2, "bath\x00": 3, "bathe": 3, "bati": 3, "bau": 3, "b\xff": 3, "c": 3, "ca": 3, "caa": 3, "cas": 3, "cat": 3,
		"cat\x00": 4, "cats": 4, "cau": 4, "cb": 4, "c\xff": 4, "d": 4, "d\x00": 4, "d\x00\x00": 5, "d\x00\xfe": 5, "d\x00\xff": 5, "d\x00\xff\x00": 6,
		"d\x01": 6, "da": 6, "d\xfe": 6, "d\xfe\xff": 6, "d\xff": 6, "d\xff\x00": 7, "d\xff\xff": 7, "e": 7, "\xff": 7,
	} {
		isFrom(t, "bats", d, s, list[ahead:])
	}
}

// 13.1: lists of each kind, from texts of each kind.
func TestFromOfLists(t *testing.T) {
	for name, list := range lists() {
		d := dictOf(t, list)
		for _, s := range texts(list) {
			isFrom(t, name, d, s, notAhead(list, s))
		}
	}
}

// 13.1, 13.2: all lists of terms of up to three bytes out of two, from all texts of up to four out of these and the bytes
// beside them, and with some of the automata of up to two states.
func TestAllShortLists(t *testing.T) {
	terms, from := textsOf("ab", 3)[1:], slices.Concat(textsOf("ab", 4), textsOf("`c", 2), []string{"a`", "ac", "ba`", "bbbc", "aa\x00", "b\xff"})
	slices.Sort(terms)
	small := slices.Concat(smallStates(1), smallStates(2))
	for some := range 1 << len(terms) {
		var list []api.Entry
		for i, term := range terms {
			if some>>i&1 == 1 {
				list = append(list, entry(term, []int{0, i, 50 - i, some * (i + 3) >> 4 & 3}[some%4]))
			}
		}
		d := dictOf(t, list)
		for i := some % 5; i < len(from); i += 5 {
			isFrom(t, show(list), d, from[i], notAhead(list, from[i]))
		}
		for i := some % 83; i < len(small); i += 83 {
			isMatched(t, show(list)+show(small[i]), d, small[i], takenBy(list, small[i]))
		}
	}
}

// 13.1 to 13.3: drawn lists and automata.
func TestDrawn(t *testing.T) {
	r := rand.New(rand.NewPCG(13, 1))
	for range 1500 {
		list := drawnList(r)
		d := dictOf(t, list)
		for _, s := range texts(list)[:min(200, 14+20*len(list))] {
			isFrom(t, show(list), d, s, notAhead(list, s))
		}
		a, b := drawnStates(r, 1+r.IntN(5)), drawnStates(r, 1+r.IntN(3))
		isMatched(t, show(list)+show(a), d, a, takenBy(list, a))
		takeBoth(t, show(list), list, d, a, b)
	}
}

// 13.1: a yield that answers false at each place is asked no more.
func TestFromEnds(t *testing.T) {
	for name, list := range lists() {
		d := dictOf(t, list)
		for _, s := range []string{"", "a", "cat", "c\xff", "x", "\x80"} {
			want := notAhead(list, s)
			for most := 1; most <= len(want)+1; most += 1 + most/20 {
				if got := told(d, s, most); !slices.Equal(got, want[:min(most, len(want))]) {
					t.Errorf("%s: From(%q), ended behind %d: %s", name, s, most, show(got))
				}
			}
		}
	}
}

// 13.1: a nil yield is never called; a nil dictionary has no terms.
func TestNil(t *testing.T) {
	dicts := []*fst.Dict{nil, dictOf(t, nil)}
	for _, s := range []string{"", "a", "\x00", "\xff", "cat"} {
		for _, list := range lists() {
			walk.From(dictOf(t, list), s, nil)
		}
		for _, d := range dicts {
			walk.From(d, s, nil)
			isFrom(t, fmt.Sprint("nil: ", d == nil), d, s, nil)
		}
	}
	for name, a := range automata() {
		for _, d := range dicts {
			isMatched(t, fmt.Sprint(name, ", nil: ", d == nil), d, a, nil)
		}
	}
	for name, a := range noAutomata() {
		isMatched(t, name, nil, a, nil)
	}
}

// 13.1: a yield may go over the same dictionary itself, and be a loop's.
func TestFromWithin(t *testing.T) {
	list := lists()["words"]
	d := dictOf(t, list)
	var ends []api.Entry
	for x := range func(yield func(api.Entry) bool) { walk.From(d, "cars", yield) } {
		isFrom(t, "within "+x.Term, d, x.Term, notAhead(list, x.Term))
		isFrom(t, "within "+x.Term, d, "", list)
		isMatch(t, "within "+x.Term, d, everything, 5, list)
		if ends = append(ends, x); x.Term == "done" {
			break
		}
	}
	if !slices.Equal(ends, list[1:8]) {
		t.Errorf("From in a loop: %v", ends)
	}
	depth := 0
	var deeper func(x api.Entry) bool
	deeper = func(x api.Entry) bool {
		depth++
		walk.From(d, x.Term+"\x00", deeper)
		return false
	}
	walk.From(d, "", deeper)
	if depth != len(list) {
		t.Errorf("From within From: %d of %d", depth, len(list))
	}
}

// 13.1: long texts, and terms as long as may be.
func TestLongTexts(t *testing.T) {
	long := strings.Repeat("x", 1<<20)
	var list []api.Entry
	for i := range 64 {
		list = append(list, entry(long[:i+1], 64-i))
	}
	d := dictOf(t, list)
	isFrom(t, "long", d, long, nil)
	isFrom(t, "long", d, "w"+long, list)
	isFrom(t, "long", d, "\x00"+long, list)
	isFrom(t, "long", d, long[:64]+"\x00"+long, nil)
	for i := range 64 {
		isFrom(t, "long", d, long[:i+1], list[i:])
		isFrom(t, "long", d, long[:i]+"w"+long, list[i:])
		isFrom(t, "long", d, long[:i]+"y"+long, nil)
	}
}

// 13.2: terms that are written out.
func TestMatch(t *testing.T) {
	list := listOf([]string{"\u00e9t\u00e9", "at", "bat", "bath", "bats", "cat", "chat", "hat", "that", "\u4e2dat"}, func(i int) int { return 30 - i*i%7 })
	d := dictOf(t, list)
	for pattern, want := range map[string]string{
		"?at": "bat cat hat \u4e2dat", "*at": "at bat cat chat hat that \u4e2dat", "bat*": "bat bath bats", "bat?": "bath bats", "?": "", "??": "at",
		"*": "at bat bath bats cat chat hat that \u00e9t\u00e9 \u4e2dat", "*h*": "bath chat hat that", "?h*": "chat that", "\u00c9*": "\u00e9t\u00e9",
		"cat": "cat", "ca": "", "cats": "", "z*": "", "*z": "", "at*": "at", "AT": "at", "????": "bath bats chat that",
	} {
		a, e := wild.Wild(pattern)
		var some []api.Entry
		for _, term := range strings.Fields(want) {
			out, _ := d.Get(term)
			some = append(some, entry(term, out))
		}
		if e != api.OK {
			t.Errorf("Wild(%q): error %d", pattern, e)
		}
		isMatched(t, pattern, d, a, some)
	}
	a, _ := fuzzy.Fuzzy("hat", 1, 0)
	isMatched(t, "hat, one edit", d, a, []api.Entry{list[0], list[1], list[4], list[5], list[6], list[7], list[9]})
	a, _ = fuzzy.Fuzzy("hat", 1, 1)
	isMatched(t, "hat, one edit behind h", d, a, list[6:7])
	a, _ = wild.Prefix("b")
	isMatched(t, "what begins with b", d, a, list[1:4])
}

// What the other tests take for automata are such, and what they take for none isn't, in each of the three ways.
func TestKinds(t *testing.T) {
	for name, a := range automata() {
		if e := dfa.Check(a); e != api.OK {
			t.Errorf("%s: error %d", name, e)
		}
	}
	seen := map[api.Errno]int{}
	for _, a := range noAutomata() {
		seen[dfa.Check(a)]++
	}
	if seen[api.OK] != 0 || seen[api.ErrInput] != 3 || seen[api.ErrMany] != 2 || seen[api.ErrForm] != 3*16 {
		t.Errorf("no automata: %v", seen)
	}
}

// 13.2: automata of all kinds take of lists of each kind what they take if each term is tried.
func TestMatchOfLists(t *testing.T) {
	some := automata()
	for name, list := range lists() {
		d := dictOf(t, list)
		for kind, a := range some {
			isMatched(t, name+", "+kind, d, a, takenBy(list, a))
		}
	}
}

// 13.2: what takes nothing, everything, the empty text alone.
func TestMatchOfNothing(t *testing.T) {
	some := automata()
	for name, list := range lists() {
		d := dictOf(t, list)
		for _, kind := range []string{"nothing", "nothing, on and on", "nothing, a Final", "the empty text", "empty, on and on"} {
			isMatched(t, name+", "+kind, d, some[kind], nil)
		}
		for _, kind := range []string{"everything", "all but empty"} {
			isMatched(t, name+", "+kind, d, some[kind], list)
		}
	}
}

// 13.2: what is no automaton takes none, in whichever way it isn't, even where the fault is never come to.
func TestMatchOfNoAutomaton(t *testing.T) {
	for name, list := range lists() {
		d := dictOf(t, list)
		for kind, a := range noAutomata() {
			isMatched(t, name+", "+kind, d, a, nil)
		}
	}
}

// 13.2: each number, and each place at which a term may be that is one too many.
func TestMatchMost(t *testing.T) {
	list := lists()["bytes and pairs"]
	d := dictOf(t, list)
	for most := -3; most <= len(list)+3; most++ {
		isMatch(t, "bytes and pairs", d, everything, most, list)
	}
	words := lists()["words"]
	d = dictOf(t, words)
	for _, x := range words {
		isMatch(t, "one", d, taking(x.Term), 0, []api.Entry{x})
		isMatch(t, "one", d, taking(x.Term), 1, []api.Entry{x})
		for _, y := range words {
			// Two of them: behind the first all is gone through in vain, up to the second or to the end.
			two := slices.DeleteFunc(slices.Clone(words), func(z api.Entry) bool { return z != x && z != y })
			isMatched(t, x.Term+" or "+y.Term, d, either(x.Term, y.Term), two)
		}
	}
}

// takeBoth tells of two automata, of which the terms that both take aren't those that dfa.Both takes.
func takeBoth(t *testing.T, name string, list []api.Entry, d *fst.Dict, a, b []api.State) {
	t.Helper()
	both, e := dfa.Both(a, b, math.MaxInt)
	if e != api.OK {
		t.Errorf("%s: Both(%s, %s): error %d", name, show(a), show(b), e)
	}
	var want []api.Entry
	others, _ := walk.Match(d, b, len(list))
	for _, x := range first(walk.Match(d, a, len(list))) {
		if slices.Contains(others, x) {
			want = append(want, x)
		}
	}
	isMatched(t, name+", both", d, both, want)
}

// first answers a list alone.
func first(list []api.Entry, _ bool) []api.Entry { return list }

// 13.3: each two of the automata.
func TestBoth(t *testing.T) {
	some := automata()
	for name, every := range map[string]int{"words": 1, "letters": 3, "zeros": 1, "bytes and pairs": 11, "same rests": 5, "begun": 5} {
		list := lists()[name]
		d := dictOf(t, list)
		kinds := slices.Sorted(maps.Keys(some))
		for i, kind := range kinds {
			for k := i % every; k < len(kinds); k += every {
				takeBoth(t, name+", "+kind+", "+kinds[k], list, d, some[kind], some[kinds[k]])
			}
		}
	}
}

// 13.3: two patterns, terms written out.
func TestBothKnown(t *testing.T) {
	list := lists()["words"]
	d := dictOf(t, list)
	a, _ := wild.Wild("?a*")
	b, _ := wild.Wild("*s")
	both, _ := dfa.Both(a, b, 1000)
	isMatched(t, "?a* and *s", d, both, []api.Entry{entry("cars", 1), entry("cats", 3), entry("hats", 9)})
	a, _ = fuzzy.Fuzzy("cat", 1, 0)
	both, _ = dfa.Both(a, b, 1000)
	isMatched(t, "cat with one edit and *s", d, both, []api.Entry{entry("cats", 3)})
}

// 13.1, 13.2: as many terms as may be, gone to without trying every one: each call that does would make this test last for
// hours.
func TestManyTerms(t *testing.T) {
	var list []api.Entry
	for i := range api.MaxTerms {
		// The least digit is the last one, so the terms rise.
		term := ""
		for k := 12; k >= 0; k -= 4 {
			term += fmt.Sprintf("%c", "abcdefghijklmnop"[i>>k&15])
		}
		list = append(list, entry(term+strings.Repeat("x", i%7), i*7919%api.MaxTerms))
	}
	d := dictOf(t, list)
	isFrom(t, "many", d, "", list)
	isFrom(t, "many", d, "h", list[7<<12:])
	isMatch(t, "many", d, everything, len(list), list)
	isMatch(t, "many", d, everything, len(list)-1, list)
	for i := 0; i < len(list); i += 3 {
		x, next, more := list[i], api.Entry{}, i+1 < len(list)
		if more {
			next = list[i+1]
		}
		if y, ok := walk.Ceil(d, x.Term); y != x || !ok {
			t.Fatalf("Ceil(%q) = %v, %v", x.Term, y, ok)
		}
		if y, ok := walk.Ceil(d, x.Term+"y"); y != next || ok != more {
			t.Fatalf("Ceil(%q) = %v, %v; want %v", x.Term+"y", y, ok, next)
		}
		isMatch(t, "many", d, taking(x.Term), 1, list[i:i+1])
		isMatch(t, "many", d, taking(x.Term+"y"), 1, nil)
		a, _ := wild.Prefix(x.Term[:3])
		isMatch(t, "many", d, a, 15, list[i&^15:i&^15+16])
		isMatch(t, "many", d, everything, 3, list)
	}
}

// dirty writes one thing all over a list, its spare room included.
func dirty[E any](list []E, with E) {
	list = list[:cap(list)]
	for i := range list {
		list[i] = with
	}
}

// Rules 4, 6: what is answered is new memory, and the same each time.
func TestAnswersAreNew(t *testing.T) {
	for name, list := range lists() {
		d := dictOf(t, list)
		for _, most := range []int{0, 1, 2, len(list), math.MaxInt} {
			want := list[:min(most, len(list))]
			other, _ := walk.Match(d, everything, most)
			one, _ := walk.Match(d, everything, most)
			dirty(one, entry("dirty", -1))
			one = append(one, entry("more", -2))
			if !slices.Equal(other, want) {
				t.Errorf("%s: Match of %d: another answer is changed too: %s", name, most, show(other))
			}
			isMatch(t, name, d, everything, most, list)
			isFrom(t, name, d, "", list)
			if all := d.All(); !slices.Equal(all, list) {
				t.Errorf("%s: the dictionary is changed: %s", name, show(all))
			}
		}
	}
}

// withRoom answers an automaton, all lists of which have spare room that is written on.
func withRoom(a []api.State) []api.State {
	b := slices.Grow(slices.Clone(a), 3)
	dirty(b[len(b):], final(arc(1, 2, 3)))
	for i, s := range b {
		b[i].Arcs = slices.Grow(slices.Clone(s.Arcs), 2)
		dirty(b[i].Arcs[len(s.Arcs):], arc(4, 5, 6))
	}
	return b
}

// asText answers all that there is of an automaton, spare room included.
func asText(a []api.State) string {
	s := ""
	for _, x := range a[:cap(a)] {
		s += fmt.Sprint(x.Final, len(x.Arcs), x.Arcs[:cap(x.Arcs)])
	}
	return fmt.Sprint(len(a), s)
}

// Rule 4: what is handed in stays as it was, and isn't kept.
func TestArgumentsStay(t *testing.T) {
	list := lists()["words"]
	d := dictOf(t, list)
	all := automata()
	delete(all, "as many as may be")
	for name, a := range all {
		b := withRoom(a)
		before := asText(b)
		found, _ := walk.Match(d, b, 3)
		if asText(b) != before {
			t.Errorf("%s: the automaton is changed", name)
		}
		want := takenBy(list, a)
		for i := range b {
			dirty(b[i].Arcs, arc(7, 8, 9))
		}
		dirty(b, final(arc(0, 255, 0)))
		if !slices.Equal(found, want[:min(3, len(want))]) {
			t.Errorf("%s: what was answered is changed with the automaton", name)
		}
		isMatched(t, name, d, a, want)
	}
	if !slices.Equal(d.All(), list) {
		t.Errorf("the dictionary is changed")
	}
}

// Rule 3: what one yield did, or what one automaton was, isn't seen by later calls.
func TestCallsStandAlone(t *testing.T) {
	list := lists()["words"]
	d := dictOf(t, list)
	for name, wrong := range noAutomata() {
		walk.Match(d, wrong, 1)
		told(d, "c", 2)
		walk.Ceil(d, "zebra")
		isFrom(t, name, d, "dog", notAhead(list, "dog"))
		isMatch(t, name, d, everything, 4, list)
	}
}
