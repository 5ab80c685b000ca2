package fuzzy_test

import (
	"fmt"
	"math"
	"math/rand/v2"
	"slices"
	"strings"
	"testing"

	"gloss/api"
	"gloss/dfa"
	"gloss/fuzzy"
	"gloss/utf"
	"gloss/wild"
)

// isFar tells of two lists that aren't so far from one another, either way.
func isFar(t *testing.T, a, b []int, want int) {
	t.Helper()
	if there, back := fuzzy.Distance(a, b), fuzzy.Distance(b, a); there != want || back != want {
		t.Errorf("the distance of %.100s and %.100s is %d, and %d back, want %d", fmt.Sprint(a), fmt.Sprint(b), there, back, want)
	}
}

// charactersOf answers a text's characters as numbers.
func charactersOf(s string) []int {
	list, _ := utf.Decode(s)
	return list
}

// fuzzyOf answers the automaton of a word, which is one of at most api.MaxStates states.
func fuzzyOf(t *testing.T, s string, edits, exact int) []api.State {
	t.Helper()
	d, e := fuzzy.Fuzzy(s, edits, exact)
	if e != api.OK || dfa.Check(d) != api.OK {
		t.Fatalf("Fuzzy(%q, %d, %d): %d states, error %d; Check answers %d", s, edits, exact, len(d), e, dfa.Check(d))
	}
	return d
}

// isRefused tells of a word for which Fuzzy doesn't answer an error, and nothing beside it.
func isRefused(t *testing.T, s string, edits, exact int, want api.Errno) {
	t.Helper()
	if d, e := fuzzy.Fuzzy(s, edits, exact); e != want || len(d) != 0 {
		t.Errorf("Fuzzy(%.60q, %d, %d): %d states, error %d; want error %d", s, edits, exact, len(d), e, want)
	}
}

// judge tells of a text that an automaton takes, or doesn't, other than it should.
func judge(t *testing.T, d []api.State, word string, edits, exact int, text string, want bool) {
	if taken(d, text) != want {
		t.Helper()
		t.Errorf("%q with %d edits, %d exact, takes %q: %v", word, edits, exact, text, !want)
	}
}

// 11.1: distances that are known, both ways.
func TestDistance(t *testing.T) {
	for _, known := range []struct {
		a, b string
		want int
	}{
		{"", "", 0}, {"a", "a", 0}, {"fox", "fox", 0}, {"", "a", 1}, {"", "fox", 3}, {"a", "b", 1}, {"a", "aa", 1}, {"ab", "ba", 2},
		{"fox", "box", 1}, {"fox", "fx", 1}, {"fox", "foxy", 1}, {"fox", "ofx", 2}, {"fox", "f", 2}, {"fox", "foxes", 2}, {"fox", "x", 2},
		{"fox", "ox", 1}, {"fox", "fo", 1}, {"fox", "xfo", 2}, {"fox", "dog", 2}, {"fox", "cat", 3}, {"fox", "a", 3}, {"abc", "cba", 2},
		{"kitten", "sitting", 3}, {"sunday", "saturday", 3}, {"abcdef", "azced", 3}, {"aaaa", "aa", 2}, {"aaaa", "bbbb", 4}, {"abab", "baba", 2},
		{"ab", "xxaxxbxx", 6}, {"abcd", "dabc", 2}, {"caf\u00e9", "cafe", 1}, {"\u4e2d\u4e2e", "\u4e2e", 1}, {"abcdefghij", "bcdefghijk", 2},
	} {
		isFar(t, charactersOf(known.a), charactersOf(known.b), known.want)
	}
	isFar(t, []int{1, 2, 3, 4}, []int{2, 5, 4}, 2)
	isFar(t, nil, nil, 0)
	isFar(t, nil, []int{}, 0)
	isFar(t, []int{}, []int{0}, 1)
	isFar(t, nil, []int{0, 0, 0}, 3)
}

// 11.1: elements below 0, and such as differ in any one of their 64 bits.
func TestDistanceOfAnyNumbers(t *testing.T) {
	isFar(t, []int{-1, -2, -3}, []int{-1, -3}, 1)
	isFar(t, []int{-1}, []int{1}, 1)
	isFar(t, []int{math.MinInt, math.MaxInt}, []int{math.MaxInt, math.MinInt}, 2)
	isFar(t, []int{math.MinInt, 0, math.MaxInt}, []int{math.MinInt, math.MaxInt}, 1)
	isFar(t, []int{math.MinInt}, []int{0}, 1)
	for bit := range 64 {
		for _, x := range []int{0, -1, 7, math.MaxInt, math.MinInt} {
			isFar(t, []int{x}, []int{x ^ 1<<bit}, 1)
			isFar(t, []int{x, 5, x}, []int{x, 5, x ^ 1<<bit}, 1)
		}
	}
}

// 11.1: long lists: the same, without a common element, of unlike lengths, turned, moved.
func TestDistanceOfLongLists(t *testing.T) {
	var up, down, other []int
	for i := range 1000 {
		up, down, other = append(up, i), append([]int{i}, down...), append(other, -1-i)
	}
	isFar(t, up, up, 0)
	isFar(t, up, other, 1000)
	isFar(t, up, nil, 1000)
	isFar(t, up, other[:300], 1000)
	isFar(t, up, up[:300], 700)
	isFar(t, up, up[300:], 300)
	isFar(t, up, up[5:7], 998)
	isFar(t, up, down, 1000)
	isFar(t, up[:999], down[1:], 998)
	isFar(t, up, append(slices.Clone(up[1:]), 0), 2)
	isFar(t, slices.Repeat([]int{1}, 1000), slices.Repeat([]int{1}, 400), 600)
	isFar(t, slices.Repeat([]int{1, 2}, 500), slices.Repeat([]int{2, 1}, 500), 2)
}

// 11.1: all lists of up to four of three elements, made of one another edit by edit.
func TestDistanceOfAllShortLists(t *testing.T) {
	elements := []int{-1, 0, 1 << 40}
	lists := [][]int{{}}
	for i := 0; len(lists[i]) < 4; i++ {
		for _, x := range elements {
			lists = append(lists, append(slices.Clone(lists[i]), x))
		}
	}
	for _, a := range lists {
		far := allFrom(a, elements, 4)
		for _, b := range lists {
			if n, want := fuzzy.Distance(a, b), far[fmt.Sprint(b)]; n != want {
				t.Errorf("Distance(%v, %v) = %d, want %d", a, b, n, want)
			}
		}
	}
}

// 11.1, 11.3: drawn lists, by numbers that are always the same: as far as trying each edit tells, 0 just of the same, the
// same both ways, never more than by way of a third, nor than edits were made.
func TestDistanceOfDrawnLists(t *testing.T) {
	r := rand.New(rand.NewPCG(11, 1))
	elements := []int{0, 1, 2, -1, math.MaxInt, math.MinInt}
	for range 3000 {
		from := elements[:1+r.IntN(len(elements))]
		a, b, c := drawn(r, from, r.IntN(8)), drawn(r, from, r.IntN(8)), drawn(r, from, r.IntN(8))
		ab, bc, ac := fuzzy.Distance(a, b), fuzzy.Distance(b, c), fuzzy.Distance(a, c)
		isFar(t, a, b, farOf(a, b))
		isFar(t, a, slices.Clone(a), 0)
		if (ab == 0) != slices.Equal(a, b) || ac > ab+bc || ab > ac+bc || bc > ab+ac {
			t.Errorf("%v, %v and %v are %d, %d and %d from one another", a, b, c, ab, bc, ac)
		}
	}
	for range 300 {
		a := drawn(r, elements, 30+r.IntN(100))
		b, edits := slices.Clone(a), r.IntN(12)
		for range edits {
			b = oneOf(r, oneEdit(b, drawn(r, elements, 1)))
		}
		c := drawn(r, elements, 30+r.IntN(100))
		if n := fuzzy.Distance(a, b); n > edits || n != fuzzy.Distance(b, a) || (n == 0) != slices.Equal(a, b) {
			t.Errorf("%v is %d from %v, and was made of it by %d edits", b, n, a, edits)
		}
		if ab, bc, ac := fuzzy.Distance(a, b), fuzzy.Distance(b, c), fuzzy.Distance(a, c); ac > ab+bc || bc > ab+ac {
			t.Errorf("%v, %v and %v are %d, %d and %d from one another", a, b, c, ab, bc, ac)
		}
	}
}

// Rule 4: lists are left as they are, spare room included, also if they share their memory.
func TestDistanceLeavesListsAlone(t *testing.T) {
	whole := []int{1, 2, 3, 4, 5, 6, 7, 8}
	want := slices.Clone(whole)
	for lo := range whole {
		for hi := lo; hi < len(whole); hi++ {
			isFar(t, whole[lo:hi], whole[:4], farOf(want[lo:hi], want[:4]))
			isFar(t, whole[lo:hi], whole[lo:hi], 0)
		}
	}
	if !slices.Equal(whole, want) {
		t.Errorf("lists were changed: %v, were %v", whole, want)
	}
}

// 11.2: the chapter's examples, and more of each kind.
func TestKnown(t *testing.T) {
	for _, known := range []struct {
		word         string
		edits, exact int
		in, notIn    []string
	}{
		{"fox", 1, 0, []string{"fox", "box", "fx", "foxy", "ox", "fo", "afox", "f\u4e2dx", "f\U0001f98ax", "\x00ox", "foxx", "fo x", "fox*"},
			[]string{"", "f", "x", "ofx", "bax", "foxes", "xfo", "foby", "ooxx", "FOX", "Fo", "\u00e9\u00e9x", "aafox"}},
		{"fox", 1, 1, []string{"fox", "fax", "fx", "fo", "foxy", "faox", "ffox", "f\u4e2dx"}, []string{"", "box", "ox", "afox", "f", "foxes", "fab", "ofx", "Fox"}},
		{"fox", 1, 2, []string{"fox", "fo", "foy", "foxy", "foax"}, []string{"", "f", "fx", "fax", "ox", "foyy", "fooyx", "ofox"}},
		{"fox", 1, 3, []string{"fox", "foxy", "foxx", "fox\u4e2d", "fox "}, []string{"", "fo", "foy", "foxes", "afox", "foax"}},
		{"fox", 2, 0, []string{"fox", "f", "o", "x", "ofx", "foxes", "fo", "dog", "bax", "afoxa", "aafox", "xfo", "\u4e2d\u4e2dx"},
			[]string{"", "a", "bay", "cat", "foxesy", "aafoxa", "xof\u4e2d", "FOX"}},
		{"fox", 2, 1, []string{"f", "foxes", "fab", "fx", "fxo", "ffoxx"}, []string{"", "o", "ox", "ofx", "box", "faby", "foxesy"}},
		{"fox", 2, 3, []string{"fox", "foxe", "foxes", "fox\U0001f98a\u00e9"}, []string{"", "f", "fo", "foy", "foxesy", "afox"}},
		{"fox", 0, 0, []string{"fox"}, []string{"", "fo", "foxy", "fax", "FOX", "ofx"}},
		{"fox", 0, 2, []string{"fox"}, []string{"", "fo", "foxy", "foy"}},
		{"fox", 0, 3, []string{"fox"}, []string{"", "fo", "foxy", "fax"}},
		{"FOX", 1, 1, []string{"fox", "fax", "fOx", "foX"}, []string{"FOX", "Fox", "fOX", "fX", "box"}},
		{"Caf\u00c9", 1, 4, []string{"caf\u00e9", "caf\u00e9s"}, []string{"cafe", "caf", "Caf\u00e9", "caf\u00c9", "caf\u00ea"}},
		{"Caf\u00c9", 1, 3, []string{"caf\u00e9", "caf", "cafe", "caf\u00ea", "caf\u00c9", "cafe\u00e9"}, []string{"ca\u00e9", "caf\u00e9ss", "cafee"}},
		{"\u03a3\u03c2", 1, 0, []string{"\u03c3\u03c3", "\u03c3", "\u03a3\u03c3", "\u03c3\u03c2"}, []string{"", "\u03a3\u03c2", "\u03c2\u03a3"}},
		{"\u4e2d", 1, 0, []string{"", "\u4e2d", "\u4e2e", "a", "\u4e2d\u4e2d", "a\u4e2d", "\U0001f98a"}, []string{"aa", "\u4e2e\u4e2e", "a\u4e2da"}},
		{"\u4e2d", 2, 1, []string{"\u4e2d", "\u4e2da", "\u4e2d\u4e2d\u4e2d"}, []string{"", "\u4e2e", "a\u4e2d", "\u4e2daaa"}},
		{"a", 0, 0, []string{"a"}, []string{"", "A", "b", "aa"}},
		{"a", 1, 0, []string{"", "a", "b", "ab", "ba", "aa"}, []string{"bb", "bab", "aaa"}},
		{"a", 2, 0, []string{"", "a", "b", "bb", "bab", "aab", "bba", "aaa"}, []string{"bbb", "aaaa", "baab"}},
		{"ab", 2, 0, []string{"", "a", "c", "cd", "ba", "acbd", "xxab", "cab", "bab"}, []string{"cde", "xxabx", "bcad"}},
		{"abcdef", 2, 2, []string{"abdcef", "abcf", "abxcdefx", "abdefx", "abcdefxx", "abxyef"}, []string{"bacdef", "abfedc", "xabcde", "abcdefxxx", "ab", "abc"}},
	} {
		d := fuzzyOf(t, known.word, known.edits, known.exact)
		for _, s := range known.in {
			judge(t, d, known.word, known.edits, known.exact, s, true)
		}
		for _, s := range known.notIn {
			judge(t, d, known.word, known.edits, known.exact, s, false)
		}
	}
}

// 11.2: all short words with all short texts of characters of one to four bytes, two of which differ in the last alone.
func TestAllShort(t *testing.T) {
	texts := textsOf("a\u00e9\u4e2d\u4e2e\U0001f98a", 5)
	for _, word := range textsOf("A\u00e9\u4e2d", 3)[1:] {
		want := folded(word)
		for exact := range len(want) + 1 {
			for edits := range 3 {
				d := fuzzyOf(t, word, edits, exact)
				for _, s := range texts {
					judge(t, d, word, edits, exact, s, near(want, []rune(s), edits, exact))
				}
			}
		}
	}
}

// someWords are of one character and of two, three and sixteen: of one byte a character and of more, with the same
// character again and again and with none twice.
var someWords = []string{
	"a", "\u00c9", "\u4e2d", "ab", "\u4e2d\u4e2e", "fox", "aaa", "Caf\u00c9", "abcdefghijklmnop", "ABCDABCDABCDABCD", "aaaaaaaaaaaaaaaa", "abababababababab",
	"\u00e9\u00e9\u00e9\u00e9\u00e9\u00e9\u00e9\u00e9\u00e9\u00e9\u00e9\u00e9\u00e9\u00e9\u00e9\u00e9",
	"\u4e00\u4e01\u4e02\u4e03\u4e04\u4e05\u4e06\u4e07\u4e08\u4e09\u4e0a\u4e0b\u4e0c\u4e0d\u4e0e\u4e0f",
	"\u4e2d\u4e2d\u4e2d\u4e2d\u4e2d\u4e2d\u4e2d\u4e2d\u4e2d\u4e2d\u4e2d\u4e2d\u4e2d\u4e2d\u4e2d\u4e2d",
	"a\u00e9\u4e2d\u0451b\u4e2e\u9fff7a\u00e9\u4e2d\u0451b\u4e2e\u9fff7",
}

// 11.2: an edit of each kind at each place, of no edits, one and two, of all numbers of exact characters.
func TestOneEditAtEachPlace(t *testing.T) {
	for _, word := range someWords {
		want := folded(word)
		for exact := range len(want) + 1 {
			for edits := range 3 {
				d := fuzzyOf(t, word, edits, exact)
				judge(t, d, word, edits, exact, string(want), true)
				for at := range len(want) + 1 {
					for _, c := range []rune{'a', 'z', want[0], 0xe9, 0x7ff, 0x4e2e, 0xffff, 0x1f98a} {
						for kind := range kinds {
							text := edited(want, kind, at, c)
							judge(t, d, word, edits, exact, string(text), near(want, text, edits, exact))
						}
					}
				}
			}
		}
	}
}

// 11.2: edits of each kind at each two places, side by side and far apart, and a third one, which is too far.
func TestTwoEditsAtEachPlaces(t *testing.T) {
	for _, word := range someWords {
		want := folded(word)
		for exact := 0; exact <= len(want); exact += 1 + len(want)/4 {
			one, two := fuzzyOf(t, word, 1, exact), fuzzyOf(t, word, 2, exact)
			for i := range (len(want) + 1) * kinds {
				text := edited(want, i%kinds, i/kinds, 0x4e2e)
				for k := range (len(text) + 1) * kinds {
					both := edited(text, k%kinds, k/kinds, 'z')
					judge(t, one, word, 1, exact, string(both), near(want, both, 1, exact))
					judge(t, two, word, 2, exact, string(both), near(want, both, 2, exact))
					far := edited(both, (i+k)%kinds, (i*7+k)%(len(both)+1), 0x10ffff)
					judge(t, two, word, 2, exact, string(far), near(want, far, 2, exact))
				}
			}
		}
	}
}

// 11.2: texts that are just as far as may be, and one edit farther, of words without a character twice.
func TestOneEditTooFar(t *testing.T) {
	for _, word := range []string{"abcdefghijklmnop", "\u4e00\u4e01\u4e02\u4e03\u4e04\u4e05\u4e06\u4e07\u4e08\u4e09\u4e0a\u4e0b\u4e0c\u4e0d\u4e0e\u4e0f", "fox"} {
		list := []rune(word)
		for edits := range 3 {
			for exact := range len(list) + 1 - edits {
				d := fuzzyOf(t, word, edits, exact)
				for _, c := range []rune{'z', 0xff, 0x5e2d, 0x1f98a} {
					strange := slices.Repeat([]rune{c}, edits+1)
					for at := exact; at <= len(list); at++ {
						judge(t, d, word, edits, exact, string(slices.Insert(slices.Clone(list), at, strange[1:]...)), true)
						judge(t, d, word, edits, exact, string(slices.Insert(slices.Clone(list), at, strange...)), false)
					}
					for at := exact; at+edits < len(list); at++ {
						judge(t, d, word, edits, exact, string(slices.Concat(list[:at], strange[1:], list[at+edits:])), true)
						judge(t, d, word, edits, exact, string(slices.Concat(list[:at], strange, list[at+edits+1:])), false)
						judge(t, d, word, edits, exact, string(slices.Concat(list[:at], list[at+edits:])), true)
						judge(t, d, word, edits, exact, string(slices.Concat(list[:at], list[at+edits+1:])), false)
					}
				}
			}
		}
	}
}

// 11.2: texts shorter than the exact characters, among them the empty one, are never taken.
func TestShorterThanExact(t *testing.T) {
	for _, word := range someWords {
		want := folded(word)
		for edits := range 3 {
			for exact := range len(want) + 1 {
				d := fuzzyOf(t, word, edits, exact)
				for n := range exact {
					judge(t, d, word, edits, exact, string(want[:n]), false)
					judge(t, d, word, edits, exact, string(want[len(want)-n:]), false)
				}
				judge(t, d, word, edits, exact, "", exact == 0 && len(want) <= edits)
			}
		}
	}
}

// 11.2: each character put in, and changed to.
func TestEachCharacter(t *testing.T) {
	one, two, behind := fuzzyOf(t, "fox", 1, 0), fuzzyOf(t, "fox", 2, 0), fuzzyOf(t, "fox", 1, 3)
	within, least := fuzzyOf(t, "\u4e2d\u4e2d", 1, 1), fuzzyOf(t, "\u00e9", 1, 0)
	for c := range api.MaxRune + 1 {
		if !utf.Whole(c) {
			continue
		}
		s := string(rune(c))
		for _, text := range []string{s + "fox", "f" + s + "ox", "fo" + s + "x", "fox" + s, s + "ox", "f" + s + "x", "fo" + s} {
			judge(t, one, "fox", 1, 0, text, true)
			judge(t, two, "fox", 2, 0, text+s, true)
		}
		for _, text := range []string{s + s + "fox", "f" + s + s + "ox", "fo" + s + s + "x", s + "fox" + s} {
			judge(t, one, "fox", 1, 0, text, false)
			judge(t, two, "fox", 2, 0, text, true)
			judge(t, two, "fox", 2, 0, text+s, false)
		}
		judge(t, behind, "fox", 1, 3, "fox"+s, true)
		judge(t, behind, "fox", 1, 3, "fo"+s, c == 'x')
		judge(t, behind, "fox", 1, 3, s+"fox", false)
		judge(t, within, "\u4e2d\u4e2d", 1, 1, "\u4e2d"+s, true)
		judge(t, within, "\u4e2d\u4e2d", 1, 1, s+"\u4e2d", c == 0x4e2d)
		judge(t, least, "\u00e9", 1, 0, s, true)
		judge(t, least, "\u00e9", 1, 0, s+"a", c == 0xe9)
	}
}

// 11.2: each letter as a word, upper and lower case: it stands for its folded character.
func TestEachLetter(t *testing.T) {
	for c := range api.MaxRune + 1 {
		if !utf.Letter(c) {
			continue
		}
		s, fold := string(rune(c)), string(rune(utf.Fold(c)))
		d := fuzzyOf(t, s, 0, 0)
		judge(t, d, s, 0, 0, fold, true)
		judge(t, d, s, 0, 0, s, s == fold)
		judge(t, d, s, 0, 0, string(rune(utf.Fold(c)^1)), false)
		d = fuzzyOf(t, s, 1, 1)
		judge(t, d, s, 1, 1, fold+s, true)
		judge(t, d, s, 1, 1, s, s == fold)
		judge(t, d, s, 1, 1, "", false)
		judge(t, d, s, 1, 1, fold+s+s, false)
	}
}

// 11.2: drawn words, by numbers that are always the same, and texts that are near them, or nearly so.
func TestDrawnWords(t *testing.T) {
	r := rand.New(rand.NewPCG(11, 2))
	for range 2000 {
		word := drawnWord(r)
		want, edits := folded(word), r.IntN(3)
		exact := min(r.IntN(len(want)+1), r.IntN(len(want)+1))
		d := fuzzyOf(t, word, edits, exact)
		for range 60 {
			text := editedOften(r, want, r.IntN(edits+3))
			if r.IntN(2) == 0 {
				text = slices.Concat(want[:exact], editedOften(r, want[exact:], r.IntN(edits+3)))
			}
			judge(t, d, word, edits, exact, string(text), near(want, text, edits, exact))
		}
	}
}

// 11.2: an automaton takes just what Distance tells.
func TestAsDistanceTells(t *testing.T) {
	r := rand.New(rand.NewPCG(11, 3))
	for range 300 {
		word := drawnWord(r)
		want := folded(word)
		exact := r.IntN(len(want) + 1)
		for edits := range 3 {
			d := fuzzyOf(t, word, edits, exact)
			for range 30 {
				rest := editedOften(r, want[exact:], r.IntN(5))
				far := fuzzy.Distance(charactersOf(string(rest)), charactersOf(string(want[exact:])))
				judge(t, d, word, edits, exact, string(want[:exact])+string(rest), far <= edits)
			}
		}
	}
}

// 11.2: there are never too many states: words of sixteen letters of three bytes, of few of them and of many, among them
// such as a search for bad ones found.
func TestManyStates(t *testing.T) {
	words := []string{
		"\u8e00\u7e00\u6e00\u7e00\u6e00\u4e40\u6e00\u4e40\u6e00\u4e40\u6e00\u4e40\u6e00\u4e40\u6e00\u4e40",
		"\u9e00\u8e00\u6e00\u8e00\u5e40\u9fff\u5e40\u9fff\u5e40\u6e00\u5e40\u9fff\u5e40\u6e00\u5e40\u9fff",
		"\u9e00\u6e00\u5e00\u4e01\u5e00\u4e01\u5e00\u4e01\u5e00\u4e01\u5e00\u4e01\u5e00\u4e01\u9fff\u8e00",
	}
	r := rand.New(rand.NewPCG(11, 4))
	far := []rune{0x4e00, 0x5e40, 0x6e80, 0x7ec0, 0x8e00, 0x9fff, 0x4e01, 0x4e40, 0x5000, 0x451, 0xe9, 'a'}
	for n := range far {
		for range 8 {
			words = append(words, string(drawn(r, far[:n+1], 16)))
		}
	}
	for step := 1; step < 0x500; step *= 2 {
		var list []rune
		for i := range rune(16) {
			list = append(list, 0x4e00+i*rune(step))
		}
		words = append(words, string(list))
	}
	for _, word := range words {
		want := []rune(word)
		for _, exact := range []int{0, 1, 8, 16} {
			d := fuzzyOf(t, word, 2, exact)
			for range 100 {
				text := editedOften(r, want, r.IntN(5))
				judge(t, d, word, 2, exact, string(text), near(want, text, 2, exact))
			}
		}
	}
}

// 11.2: words that may not be.
func TestRefusedWords(t *testing.T) {
	for _, c := range []struct {
		list []string
		want api.Errno
	}{
		{[]string{"", " ", "a b", " fox", "fox ", "*", "fox*", "f?x", "?", "fo-x", "fox.", "a\x00", "\u00d7", "a\u00f7b", "\u037e", "\U0001f98a", "fo\u0250", strings.Repeat("a", 15) + " "}, api.ErrQuery},
		{[]string{"\xff", "\x80", "\xc3", "fo\xe2\x82", "\xc0\x80", "\xed\xa0\x80fox", "\xf4\x90\x80\x80", "fox\xff", strings.Repeat("a", 17) + "\xff", " \xff", "*\x80"}, api.ErrUTF},
		{[]string{strings.Repeat("a", 17), strings.Repeat("\u4e2d", 17), strings.Repeat(" ", 17), strings.Repeat("*", 100), strings.Repeat("a", 5000), strings.Repeat("a", 16) + "?"}, api.ErrLimit},
	} {
		for _, s := range c.list {
			// Whatever edits and exact are: the word's error stands first.
			for _, edits := range []int{0, 1, 2, 3, -1, math.MaxInt, math.MinInt} {
				for _, exact := range []int{0, 1, 17, 18, -1, math.MaxInt, math.MinInt} {
					isRefused(t, s, edits, exact, c.want)
				}
			}
		}
	}
}

// 11.2: edits and exact characters that may not be, by the characters of a word, not its bytes.
func TestRefusedNumbers(t *testing.T) {
	for _, s := range []string{"a", "fox", "FOX", "\u4e2d", "Caf\u00c9", strings.Repeat("\u4e2d", 16)} {
		n := len([]rune(s))
		for _, edits := range []int{-1, 3, 4, 100, math.MaxInt, math.MinInt, 1 << 32, -1 << 32} {
			for _, exact := range []int{0, n, -1, n + 1} {
				isRefused(t, s, edits, exact, api.ErrInput)
			}
		}
		for edits := range 3 {
			for _, exact := range []int{-1, n + 1, n + 2, 3 * n * n, math.MaxInt, math.MinInt, 1 << 32, -1 << 32} {
				if exact != n {
					isRefused(t, s, edits, exact, api.ErrInput)
				}
			}
			fuzzyOf(t, s, edits, n)
		}
	}
}

// 11.3: with no edits the word alone is taken, however many characters are exact, and with some it is too.
func TestWordAlone(t *testing.T) {
	r := rand.New(rand.NewPCG(11, 5))
	for range 100 {
		word := drawnWord(r)
		alone, _ := wild.Wild(word)
		want := onCharacters(alone)
		for exact := range len([]rune(word)) + 1 {
			if onCharacters(fuzzyOf(t, word, 0, exact)) != want {
				t.Errorf("%q with no edits, %d exact, takes other texts than the word", word, exact)
			}
			if exact%5 == 0 && onCharacters(alone, fuzzyOf(t, word, 2, exact)) != want {
				t.Errorf("%q with two edits, %d exact, doesn't take the word", word, exact)
			}
		}
	}
}

// 11.3: with more edits, or fewer exact characters, nothing is taken less.
func TestNothingLess(t *testing.T) {
	r := rand.New(rand.NewPCG(11, 6))
	for range 40 {
		word := drawnWord(r)
		letters := len([]rune(word))
		for range 6 {
			edits, exact := r.IntN(3), r.IntN(letters+1)
			more, fewer := edits+r.IntN(3-edits), r.IntN(exact+1)
			d, wider := fuzzyOf(t, word, edits, exact), fuzzyOf(t, word, more, fewer)
			want := onCharacters(d)
			if onCharacters(d, wider) != want {
				t.Errorf("%q with %d edits, %d exact, takes less than with %d, %d", word, more, fewer, edits, exact)
			}
			// Of one that isn't wider at all this would hold too.
			if same := onCharacters(wider) == want; same != (more == edits && fewer == exact || more == 0) {
				t.Errorf("%q with %d edits, %d exact, takes what it does with %d, %d: %v", word, more, fewer, edits, exact, same)
			}
		}
	}
}

// Rule 4, rule 6: automata are new memory, their parts too, and the same each time.
func TestAutomataAreNew(t *testing.T) {
	for _, word := range []string{"a", "fox", "Caf\u00c9", "\u4e2d\u4e2e", strings.Repeat("ab", 8)} {
		for edits := range 3 {
			for exact := range 2 {
				first, d, other := fuzzyOf(t, word, edits, exact), fuzzyOf(t, word, edits, exact), fuzzyOf(t, word, edits, exact)
				want := fmt.Sprint(first)
				for i := range d {
					behind := fmt.Sprint(d[i+1:])
					spare := d[i].Arcs[:cap(d[i].Arcs)]
					for k := range spare {
						spare[k] = api.Arc{Lo: -1, Hi: -1, To: -1}
					}
					d[i].Arcs = append(d[i].Arcs, api.Arc{Lo: -2, Hi: -2, To: -2})
					if fmt.Sprint(d[i+1:]) != behind {
						t.Errorf("%q: states behind state %d are changed with it", word, i)
					}
				}
				d = d[:cap(d)]
				clear(d)
				if fmt.Sprint(first) != want || fmt.Sprint(other) != want || fmt.Sprint(fuzzyOf(t, word, edits, exact)) != want {
					t.Errorf("%q: another answer is changed too", word)
				}
			}
		}
	}
}
