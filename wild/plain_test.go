package wild_test

import (
	"math/rand/v2"
	"slices"
	"strings"

	"gloss/api"
	"gloss/dfa"
	"gloss/spans"
	"gloss/utf"
)

// matches tells whether a pattern's characters match those of a text, as the chapter tells it.
func matches(pattern, text []rune) bool {
	// Of each length: whether what there is of the pattern so far matches so many of the text's first characters.
	ends := make([]bool, len(text)+1)
	ends[0] = true
	for _, p := range pattern {
		next := make([]bool, len(text)+1)
		for i := range next {
			switch {
			case p == '*':
				next[i] = ends[i] || i > 0 && next[i-1]
			case i > 0:
				next[i] = ends[i-1] && (p == '?' || p == text[i-1])
			}
		}
		ends = next
	}
	return ends[len(text)]
}

// folded answers a pattern's characters, each folded.
func folded(pattern string) []rune {
	list := []rune(pattern)
	for i, c := range list {
		list[i] = rune(utf.Fold(int(c)))
	}
	return list
}

// tooMany tells whether behind the first star there are a ? and more than eight characters other than stars.
func tooMany(pattern string) bool {
	_, behind, _ := strings.Cut(pattern, "*")
	others := []rune(strings.ReplaceAll(behind, "*", ""))
	return slices.Contains(others, '?') && len(others) > 8
}

// taken tells whether an automaton, which was checked, takes a text.
func taken(d []api.State, s string) bool {
	state := 0
	for i := range len(s) {
		state = dfa.Step(d, state, s[i])
	}
	return state >= 0 && d[state].Final
}

// textsOf answers all texts of up to so many of some characters.
func textsOf(characters string, most int) []string {
	all := []string{""}
	for begin := 0; most > 0; most-- {
		end := len(all)
		for _, s := range all[begin:end] {
			for _, c := range characters {
				all = append(all, s+string(c))
			}
		}
		begin = end
	}
	return all
}

// onCharacters answers the least automaton of the texts that are characters, of those that one takes.
func onCharacters(d []api.State) []api.State {
	all, _ := dfa.Tight(spans.Lead([]api.Loose{{Final: true}}, 0, 0, 0, api.MaxRune), 100)
	both, _ := dfa.Both(d, all, 1<<20)
	return both
}

// alone answers the automaton that takes one text alone.
func alone(s string) []api.State {
	d := make([]api.State, len(s)+1)
	for i := range len(s) {
		d[i].Arcs = []api.Arc{{Lo: int(s[i]), Hi: int(s[i]), To: i + 1}}
	}
	d[len(s)].Final = true
	return d
}

// alike tells whether two automata are.
func alike(a, b []api.State) bool {
	return slices.EqualFunc(a, b, func(x, y api.State) bool {
		return x.Final == y.Final && slices.Equal(x.Arcs, y.Arcs)
	})
}

// copyOf answers an automaton that shares nothing with the one given.
func copyOf(d []api.State) []api.State {
	out := make([]api.State, len(d))
	for i, s := range d {
		out[i] = api.State{Final: s.Final, Arcs: append([]api.Arc(nil), s.Arcs...)}
	}
	return out
}

// anyOf are characters of one to four bytes, letters and others, at the ends of what their bytes change by.
var anyOf = []rune{
	'a', 'b', 'z', 'A', '7', '*', '?', ' ', 0, 0x7f, 0x80, 0xbf, 0xc0, 0xe9, 0xea, 0xff, 0x3c2, 0x3c3, 0x451, 0x7ff, 0x800, 0xfff, 0x1000, 0x20ac,
	0x4e00, 0x4e2d, 0x4e2e, 0x4e6d, 0x9fff, 0xcfff, 0xd000, 0xd7ff, 0xe000, 0xfffd, 0xffff, 0x10000, 0x1f98a, 0x3ffff, 0x40000, 0xfffff, 0x100000, 0x10ffff,
}

// oneOf draws one of some characters.
func oneOf(r *rand.Rand, list []rune) rune {
	return list[r.IntN(len(list))]
}

// drawn answers so many characters drawn out of some.
func drawn(r *rand.Rand, list []rune, n int) []rune {
	out := make([]rune, n)
	for i := range out {
		out[i] = oneOf(r, list)
	}
	return out
}

// filled draws a text that a pattern matches.
func filled(r *rand.Rand, pattern []rune) []rune {
	// Of few characters stars and questions often hold what stands beside them in the pattern.
	from := append([]rune{oneOf(r, anyOf), oneOf(r, anyOf)}, pattern...)
	var text []rune
	for _, c := range pattern {
		switch c {
		case '*':
			text = append(text, drawn(r, from, r.IntN(4))...)
		case '?':
			text = append(text, oneOf(r, from))
		default:
			text = append(text, c)
		}
	}
	return text
}

// changed draws what a text is behind a small change: one character more or less, changed, or two that change places.
func changed(r *rand.Rand, text []rune) []rune {
	if len(text) == 0 {
		return drawn(r, anyOf, 1)
	}
	out, i := slices.Clone(text), r.IntN(len(text))
	switch r.IntN(6) {
	case 0:
		return slices.Delete(out, i, i+1)
	case 1:
		return slices.Insert(out, i, oneOf(r, anyOf))
	case 2:
		return append(out, oneOf(r, anyOf))
	case 3:
		out[i] = oneOf(r, anyOf)
	case 4:
		// Of most characters the one beside them differs in the last byte alone.
		if utf.Whole(int(out[i] ^ 1)) {
			out[i] ^= 1
		}
	case 5:
		k := r.IntN(len(text))
		out[i], out[k] = out[k], out[i]
	}
	return out
}
