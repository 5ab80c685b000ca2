package fuzzy_test

import (
	"fmt"
	"math/rand/v2"
	"slices"

	"gloss/api"
	"gloss/dfa"
	"gloss/spans"
	"gloss/utf"
)

// farOf answers how far two lists are from one another, by trying each edit of their first elements.
func farOf(a, b []int) int {
	switch {
	case len(a) == 0:
		return len(b)
	case len(b) == 0:
		return len(a)
	case a[0] == b[0]:
		return min(farOf(a[1:], b[1:]), 1+farOf(a[1:], b), 1+farOf(a, b[1:]))
	}
	return 1 + min(farOf(a[1:], b[1:]), farOf(a[1:], b), farOf(a, b[1:]))
}

// oneEdit answers all that a list can be made by one edit, with some elements.
func oneEdit(list, elements []int) [][]int {
	var all [][]int
	for i := range len(list) + 1 {
		for _, x := range elements {
			all = append(all, slices.Insert(slices.Clone(list), i, x))
			if i < len(list) {
				all = append(all, slices.Concat(list[:i], []int{x}, list[i+1:]))
			}
		}
		if i < len(list) {
			all = append(all, slices.Delete(slices.Clone(list), i, i+1))
		}
	}
	return all
}

// allFrom answers how many edits make each list, by its text, of one, edit by edit; none grows longer than so many.
func allFrom(list, elements []int, longest int) map[string]int {
	far, met := map[string]int{fmt.Sprint(list): 0}, [][]int{list}
	for i := 0; i < len(met); i++ {
		for _, to := range oneEdit(met[i], elements) {
			if _, ok := far[fmt.Sprint(to)]; !ok && len(to) <= longest {
				far[fmt.Sprint(to)] = far[fmt.Sprint(met[i])] + 1
				met = append(met, to)
			}
		}
	}
	return far
}

// within tells whether so many edits are enough to make one row of characters of another.
func within(a, b []rune, edits int) bool {
	switch {
	case edits < 0:
		return false
	case len(a) == 0 || len(b) == 0:
		return len(a)+len(b) <= edits
	}
	return a[0] == b[0] && within(a[1:], b[1:], edits) ||
		within(a[1:], b[1:], edits-1) || within(a[1:], b, edits-1) || within(a, b[1:], edits-1)
}

// near tells whether a text is to be taken for a word's folded characters, as the chapter tells it.
func near(word, text []rune, edits, exact int) bool {
	return len(text) >= exact && slices.Equal(word[:exact], text[:exact]) && within(word[exact:], text[exact:], edits)
}

// folded answers a word's characters, each folded.
func folded(word string) []rune {
	list := []rune(word)
	for i, c := range list {
		list[i] = rune(utf.Fold(int(c)))
	}
	return list
}

// taken tells whether an automaton, which was checked, takes a text.
func taken(d []api.State, s string) bool {
	state := 0
	for i := range len(s) {
		state = dfa.Step(d, state, s[i])
	}
	return state >= 0 && d[state].Final
}

// textsOf answers all texts of up to so many of some characters.
func textsOf(characters string, most int) []string {
	all, last := []string{""}, []string{""}
	for range most {
		var longer []string
		for _, s := range last {
			for _, c := range characters {
				longer = append(longer, s+string(c))
			}
		}
		all, last = append(all, longer...), longer
	}
	return all
}

// onCharacters answers the text of the least automaton of the texts that are characters and that all of some take.
func onCharacters(list ...[]api.State) string {
	all, _ := dfa.Tight(spans.Lead([]api.Loose{{Final: true}}, 0, 0, 0, api.MaxRune), 100)
	for _, d := range list {
		all, _ = dfa.Both(all, d, 1<<20)
	}
	return fmt.Sprint(all)
}

// letters are those of which words are drawn: of one to three bytes, some with the same first bytes.
var letters = []rune{'a', 'b', 'Z', '7', 0xe9, 0xc8, 0x3a3, 0x401, 0x4e2d, 0x4e2e, 0x4e6d, 0x5e2d, 0x9fff}

// anyOf are characters of one to four bytes, letters and others, at the ends of what their bytes change by.
var anyOf = []rune{
	'a', 'b', 'A', '*', ' ', 0, 0x7f, 0x80, 0xe9, 0xff, 0x3c3, 0x451, 0x7ff, 0x800, 0xfff, 0x1000, 0x4e2d, 0x4e2e, 0x4e6d, 0x5e2d, 0x9fff,
	0xcfff, 0xd000, 0xd7ff, 0xe000, 0xffff, 0x10000, 0x1f98a, 0x3ffff, 0x40000, 0xfffff, 0x100000, 0x10ffff,
}

// oneOf draws one of some things.
func oneOf[T any](r *rand.Rand, list []T) T {
	return list[r.IntN(len(list))]
}

// drawn answers so many things drawn out of some.
func drawn[T any](r *rand.Rand, list []T, n int) []T {
	out := make([]T, n)
	for i := range out {
		out[i] = oneOf(r, list)
	}
	return out
}

// drawnWord draws a word of few letters, so that they stand in it again and again.
func drawnWord(r *rand.Rand) string {
	return string(drawn(r, drawn(r, letters, 1+r.IntN(6)), 1+r.IntN(16)))
}

// The kinds of edits.
const (
	putIn = iota
	takenOut
	changed
	kinds
)

// edited answers what a row of characters is behind an edit at a place, which is cut to those that there are.
func edited(list []rune, kind, at int, c rune) []rune {
	switch out := slices.Clone(list); {
	case kind == putIn || len(list) == 0:
		return slices.Insert(out, min(at, len(out)), c)
	case kind == takenOut:
		at = min(at, len(out)-1)
		return slices.Delete(out, at, at+1)
	default:
		out[min(at, len(out)-1)] = c
		return out
	}
}

// editedOften draws what a row of characters is behind so many edits.
func editedOften(r *rand.Rand, list []rune, edits int) []rune {
	from := append(slices.Clone(list), drawn(r, anyOf, 3)...)
	for range edits {
		list = edited(list, r.IntN(kinds), r.IntN(len(list)+1), oneOf(r, from))
	}
	return list
}
