package wild_test

import (
	"math/rand/v2"
	"slices"
	"strings"
	"testing"

	"gloss/api"
	"gloss/dfa"
	"gloss/utf"
	"gloss/wild"
)

// noText are bytes that are no characters, of each kind.
var noText = []string{
	"\xff", "\x80", "\xbf", "\xc3", "\xe2\x82", "\xf0\x9f\xa6", "\xc3\xc3\xa9", "\xa9\xc3", "\xc0\x80", "\xc1\xa1", "\xe0\x83\xa9",
	"\xf0\x84\xb8\xad", "\xed\xa0\x80", "\xed\xbf\xbf", "\xf4\x90\x80\x80", "\xf8\x88\x80\x80\x80", "\xaa", "\x2a\xaa", "\xc0\xaa", "\xc0\xbf",
}

// noLetters are characters that stand in no word, * and ? not among them; some have such a one's bits in their last byte.
var noLetters = []rune{
	' ', 0, '\n', '-', '_', '.', '+', ')', '>', '@', '[', '/', ':', '`', '{', '\\', '"', 0x7f, 0x80, 0xa0, 0xbf, 0xd7, 0xf7, 0x250, 0x36f, 0x37e,
	0x482, 0x530, 0x202a, 0x203f, 0x302a, 0x3042, 0x4dff, 0xa000, 0xac00, 0xfffd, 0xff0a, 0xff1f, 0x1f92a, 0x1f98a, 0x2003f, 0x10ffff,
}

// isLetters tells of a pattern whose characters aren't these, folded.
func isLetters(t *testing.T, s, marks string, want ...int) {
	t.Helper()
	if list, e := wild.Letters(s, marks); e != api.OK || !slices.Equal(list, want) {
		t.Errorf("Letters(%q, %q) = %x, error %d; want %x", s, marks, list, e, want)
	}
}

// isNoLetters tells of a pattern of which Letters doesn't answer an error, and nothing beside it.
func isNoLetters(t *testing.T, s, marks string, want api.Errno) {
	t.Helper()
	if list, e := wild.Letters(s, marks); e != want || len(list) != 0 {
		t.Errorf("Letters(%.60q, %.60q) = %x, error %d; want error %d", s, marks, list, e, want)
	}
}

// isNoPrefix tells of a text of which Prefix doesn't answer an error, and nothing beside it.
func isNoPrefix(t *testing.T, s string, want api.Errno) {
	t.Helper()
	if d, e := wild.Prefix(s); e != want || len(d) != 0 {
		t.Errorf("Prefix(%.60q): %d states, error %d; want error %d", s, len(d), e, want)
	}
}

// isNoWild tells of a text of which Wild doesn't answer an error, and nothing beside it.
func isNoWild(t *testing.T, s string, want api.Errno) {
	t.Helper()
	if d, e := wild.Wild(s); e != want || len(d) != 0 {
		t.Errorf("Wild(%.60q): %d states, error %d; want error %d", s, len(d), e, want)
	}
}

// isRefused tells of a text that isn't refused by all three, whatever the marks.
func isRefused(t *testing.T, s string, want api.Errno) {
	t.Helper()
	for _, marks := range []string{"", "*?", "ab", "\xff\xff"} {
		isNoLetters(t, s, marks, want)
	}
	isNoPrefix(t, s, want)
	isNoWild(t, s, want)
}

// prefixOf answers the automaton of a prefix.
func prefixOf(t *testing.T, s string) []api.State {
	t.Helper()
	d, e := wild.Prefix(s)
	if e != api.OK || dfa.Check(d) != api.OK {
		t.Fatalf("Prefix(%q): %d states, error %d; Check answers %d", s, len(d), e, dfa.Check(d))
	}
	return d
}

// wildOf answers the automaton of a pattern.
func wildOf(t *testing.T, s string) []api.State {
	t.Helper()
	d, e := wild.Wild(s)
	if e != api.OK || dfa.Check(d) != api.OK {
		t.Fatalf("Wild(%q): %d states, error %d; Check answers %d", s, len(d), e, dfa.Check(d))
	}
	return d
}

// takes tells of texts that an automaton doesn't take.
func takes(t *testing.T, of string, d []api.State, texts ...string) {
	t.Helper()
	for _, s := range texts {
		if !taken(d, s) {
			t.Errorf("%q doesn't take %q", of, s)
		}
	}
}

// takesNot tells of texts that an automaton takes.
func takesNot(t *testing.T, of string, d []api.State, texts ...string) {
	t.Helper()
	for _, s := range texts {
		if taken(d, s) {
			t.Errorf("%q takes %q", of, s)
		}
	}
}

// 10.1: the characters, folded, of one to three bytes, with marks and without.
func TestLetters(t *testing.T) {
	isLetters(t, "fox", "", 'f', 'o', 'x')
	isLetters(t, "FOX7", "", 'f', 'o', 'x', '7')
	isLetters(t, "Caf\u00c9", "", 'c', 'a', 'f', 0xe9)
	isLetters(t, "\u03a3\u03c2\u0401\u4e2d", "", 0x3c3, 0x3c3, 0x451, 0x4e2d)
	isLetters(t, "*", "*", '*')
	isLetters(t, "F?x*", "*?", 'f', '?', 'x', '*')
	isLetters(t, "F?x*", "?*", 'f', '?', 'x', '*')
	isLetters(t, "??**", "*?", '?', '?', '*', '*')
	isLetters(t, "a b-", " -_", 'a', ' ', 'b', '-')
	isLetters(t, "a\x00", "\x00", 'a', 0)
	isLetters(t, "a\u4e2d", "*?", 'a', 0x4e2d)
}

// 10.1: sixteen characters of one to three bytes, and no seventeenth, whatever they are.
func TestLettersLimit(t *testing.T) {
	for _, c := range []rune{'a', 'Z', '0', 0xc9, 0x24f, 0x401, 0x52f, 0x4e2d, 0x9fff} {
		s := strings.Repeat(string(c), 16)
		isLetters(t, s, "", slices.Repeat([]int{utf.Fold(int(c))}, 16)...)
		isRefused(t, s+string(c), api.ErrLimit)
		isRefused(t, s+s, api.ErrLimit)
		isRefused(t, s+" ", api.ErrLimit)
		isRefused(t, " "+s, api.ErrLimit)
	}
	isLetters(t, strings.Repeat("*?", 8), "*?", slices.Repeat([]int{'*', '?'}, 8)...)
	for _, c := range []rune{' ', '*', '?', '-', 0, 0xd7, 0x3042, 0x1f98a, 0x10ffff} {
		isRefused(t, strings.Repeat(string(c), 17), api.ErrLimit)
		isRefused(t, strings.Repeat(string(c), 1000), api.ErrLimit)
		isNoLetters(t, strings.Repeat(string(c), 16), "", api.ErrQuery)
	}
}

// 10.1: texts longer than a field may be.
func TestLettersOfLongTexts(t *testing.T) {
	for _, n := range []int{65, 4096, 4097, 100000} {
		for _, c := range []string{"a", " ", "*", "\u4e2d", "\U0001f98a"} {
			isRefused(t, strings.Repeat(c, n), api.ErrLimit)
			isRefused(t, strings.Repeat(c, n)+"\xff", api.ErrUTF)
		}
	}
}

// 10.1: each character alone, and within a pattern, with marks and without.
func TestLettersOfEachCharacter(t *testing.T) {
	for c := range api.MaxRune + 1 {
		if !utf.Whole(c) {
			continue
		}
		s := string(rune(c))
		for _, marks := range []string{"", "*?"} {
			if utf.Letter(c) || c < 0x80 && strings.Contains(marks, s) {
				isLetters(t, s, marks, utf.Fold(c))
				isLetters(t, "a"+s+"B", marks, 'a', utf.Fold(c), 'b')
				continue
			}
			isNoLetters(t, s, marks, api.ErrQuery)
			isNoLetters(t, "a"+s+"B", marks, api.ErrQuery)
		}
	}
}

// 10.1: each character of one byte with each mark of one.
func TestLettersWithEachMark(t *testing.T) {
	for m := range 0x80 {
		for _, marks := range []string{string(rune(m)), string(rune(m)) + string(rune(m)), string(rune(m)) + "a", "%" + string(rune(m)) + "%"} {
			for c := range 0x80 {
				s := string(rune(c))
				if utf.Letter(c) || strings.Contains(marks, s) {
					isLetters(t, s, marks, utf.Fold(c))
					isLetters(t, "x"+s+s, marks, 'x', utf.Fold(c), utf.Fold(c))
				} else {
					isNoLetters(t, s, marks, api.ErrQuery)
					isNoLetters(t, "x"+s+s, marks, api.ErrQuery)
				}
			}
		}
	}
}

// 10.1: marks that are letters say nothing, nor do those that stand there twice.
func TestLettersWithOddMarks(t *testing.T) {
	for _, marks := range []string{"a", "A", "abc", "aa", "Zz09", "xX"} {
		isLetters(t, "aAzZx", marks, 'a', 'a', 'z', 'z', 'x')
		isNoLetters(t, "a*", marks, api.ErrQuery)
		isNoLetters(t, "a ", marks, api.ErrQuery)
		isNoLetters(t, "", marks, api.ErrQuery)
	}
	for _, marks := range []string{"**", "*?*?", "??**", "a*a", "****************************************"} {
		isLetters(t, "A*b*", marks, 'a', '*', 'b', '*')
		isNoLetters(t, "a-", marks, api.ErrQuery)
	}
	isLetters(t, "a*", strings.Repeat("-", 10000)+"*", 'a', '*')
	isNoLetters(t, "a+", strings.Repeat("-", 10000)+"*", api.ErrQuery)
}

// 10.1, 10.2, 10.3: nothing, what is no letter, bytes that are no characters.
func TestRefused(t *testing.T) {
	isRefused(t, "", api.ErrQuery)
	isRefused(t, " ", api.ErrQuery)
	isRefused(t, "a b", api.ErrQuery)
	for _, c := range noLetters {
		s := string(c)
		for _, text := range []string{s, s + s, s + "a", "a" + s, "a" + s + "\u4e2d", strings.Repeat("a", 15) + s, strings.Repeat(s, 16)} {
			isNoLetters(t, text, "", api.ErrQuery)
			isNoLetters(t, text, "*?", api.ErrQuery)
			isNoPrefix(t, text, api.ErrQuery)
			isNoWild(t, text, api.ErrQuery)
		}
		isNoWild(t, "*"+s, api.ErrQuery)
		isNoWild(t, s+"?", api.ErrQuery)
		isNoWild(t, "a*?"+s+"b", api.ErrQuery)
	}
	for _, s := range noText {
		isRefused(t, s, api.ErrUTF)
		isRefused(t, s+"a", api.ErrUTF)
		isRefused(t, "a"+s, api.ErrUTF)
		isRefused(t, "*?"+s, api.ErrUTF)
	}
}

// 10.1: marks where none are asked for.
func TestMarksNotAskedFor(t *testing.T) {
	for _, s := range []string{"*", "?", "a*", "*a", "a?", "?a", "a*b", "**", "??", "aaaaaaaaaaaaaaa*", "\u4e2d?"} {
		isNoLetters(t, s, "", api.ErrQuery)
		isNoLetters(t, s, "ab-+", api.ErrQuery)
		isNoPrefix(t, s, api.ErrQuery)
	}
	isNoLetters(t, "a*?", "*", api.ErrQuery)
	isNoLetters(t, "a*?", "?", api.ErrQuery)
	isNoLetters(t, "a\u202a", "*", api.ErrQuery)
}

// 10.1, 10.3: where more than one error would do, the first.
func TestFirstError(t *testing.T) {
	for _, s := range noText {
		isRefused(t, s+strings.Repeat("a", 17), api.ErrUTF)
		isRefused(t, strings.Repeat("a", 17)+s, api.ErrUTF)
		isRefused(t, " "+s, api.ErrUTF)
		isRefused(t, s+"-", api.ErrUTF)
		isRefused(t, "*?aaaaaaaaa"+s, api.ErrUTF)
		isRefused(t, strings.Repeat(" ", 5000)+s, api.ErrUTF)
	}
	isRefused(t, strings.Repeat(" ", 17), api.ErrLimit)
	isRefused(t, strings.Repeat("-", 16)+"a", api.ErrLimit)
	isRefused(t, "*?"+strings.Repeat("a", 15), api.ErrLimit)
	isRefused(t, "*?"+strings.Repeat(" ", 15), api.ErrLimit)
	isNoWild(t, "*?"+strings.Repeat("a", 9)+"-", api.ErrQuery)
	isNoWild(t, " *?"+strings.Repeat("a", 9), api.ErrQuery)
	isNoWild(t, "*?"+strings.Repeat("a", 4)+"\u00d7"+strings.Repeat("a", 9), api.ErrQuery)
	isNoWild(t, "*?"+strings.Repeat("a", 14), api.ErrMany)
}

// 10.2: texts whose first characters these are, and others.
func TestPrefix(t *testing.T) {
	d := prefixOf(t, "fo")
	takes(t, "fo", d, "fo", "fox", "foxes", "fofo", "foo", "fo\u4e2d", "fo\U0010ffff", "fo ", "fo\x00", "foFO", "fo*?")
	takesNot(t, "fo", d, "", "f", "o", "of", "f o", "xfo", "fx", "Fo", "fO", "FO", "f\u00f3")
	d = prefixOf(t, "Caf\u00c9")
	takes(t, "Caf\u00c9", d, "caf\u00e9", "caf\u00e9s", "caf\u00e9\u00e9", "caf\u00e9\U0001f98a")
	takesNot(t, "Caf\u00c9", d, "", "c", "caf", "Caf\u00e9", "caf\u00c9", "caf\u00ea", "caf\u00e8s", "cafe", "caf\u0129")
	d = prefixOf(t, "\u4e2d")
	takes(t, "\u4e2d", d, "\u4e2d", "\u4e2d\u4e2d", "\u4e2da", "\u4e2d\u4e2e")
	takesNot(t, "\u4e2d", d, "", "a", "\u4e2e", "\u4e2c\u4e2d", "\u4e6d", "\u5e2d", "\u4e2e\u4e2d", "\u00e4")
	d = prefixOf(t, "\u03a3\u03c2")
	takes(t, "\u03a3\u03c2", d, "\u03c3\u03c3", "\u03c3\u03c3\u03c2")
	takesNot(t, "\u03a3\u03c2", d, "\u03a3\u03c2", "\u03c3\u03c2", "\u03c3")
}

// 10.2: prefixes of sixteen characters, of one byte and of more: texts a character shorter and longer, and such as differ
// in one character's last byte.
func TestLongPrefix(t *testing.T) {
	for _, c := range []rune{'a', 'Y', 0xc8, 0x450, 0x4e2c, 0x9ffe} {
		s, one := strings.Repeat(string(c), 16), string(rune(utf.Fold(int(c))))
		other := string(rune(utf.Fold(int(c))) + 1)
		d := prefixOf(t, s)
		whole := strings.Repeat(one, 16)
		takes(t, s, d, whole, whole+one, whole+other, whole+whole, whole+" ")
		takesNot(t, s, d, "", one, strings.Repeat(one, 15), strings.Repeat(one, 15)+other, other+whole)
		for i := range 16 {
			takesNot(t, s, d, strings.Repeat(one, i)+other+strings.Repeat(one, 16-i))
		}
	}
}

// 10.3: the chapter's examples.
func TestWildExamples(t *testing.T) {
	d := wildOf(t, "f?x*")
	takes(t, "f?x*", d, "fox", "foxes", "f\u4e2dx", "fxx", "f x", "f\U0001f98ax\U0001f98a", "foxfox", "f*x", "f?x?")
	takesNot(t, "f?x*", d, "", "f", "fx", "fo", "fxo", "foox", "xfox", "Fox", "foX", "f\u4e2d\u4e2dx", "fxes")
	d = wildOf(t, "*a?")
	takes(t, "*a?", d, "aa", "aab", "ab", "xxa\u4e2d", "aaaa", "a\U0001f98a", "\u4e2da\u00e9", "ba ")
	takesNot(t, "*a?", d, "", "a", "ba", "abb", "xx", "\u4e2da", "A?", "a\u4e2d\u4e2d", "ab\u00e9")
	d = wildOf(t, "FOX")
	takes(t, "FOX", d, "fox")
	takesNot(t, "FOX", d, "", "FOX", "Fox", "fo", "foxx", "xfox", "fo\u00d7", "foxes")
}

// 10.3: stars first, in the middle and last, next to one another, and alone; questions alone.
func TestWildMarks(t *testing.T) {
	for _, known := range []struct {
		pattern   string
		in, notIn []string
	}{
		{"*", []string{"", "a", "abc", "\u00e9", "\u4e2d\U0001f98a", " ", "*", "?", "\x00", "A"}, nil},
		{"****************", []string{"", "a", "abc", "\U0010ffff"}, nil},
		{"?", []string{"a", "A", "\u00e9", "\u4e2d", "\U0001f98a", " ", "*", "?", "\x00"}, []string{"", "aa", "\u4e2d\u4e2d", "a\u00e9"}},
		{"??", []string{"aa", "\u4e2da", "a\U0001f98a"}, []string{"", "a", "\u4e2d", "aaa", "\U0001f98a"}},
		{"????????????????", []string{"abcdefghijklmnop", strings.Repeat("\u4e2d", 16)}, []string{"", strings.Repeat("a", 15), strings.Repeat("a", 17), strings.Repeat("\u4e2d", 5)}},
		{"*a", []string{"a", "aa", "ba", "\u4e2da"}, []string{"", "b", "ab", "\u4e2d"}},
		{"a*", []string{"a", "aa", "ab", "a\u4e2d"}, []string{"", "b", "ba", "A"}},
		{"a*b", []string{"ab", "aab", "abb", "axyb", "a\u00e9b", "abab"}, []string{"", "a", "b", "aba", "ba", "xab"}},
		{"a**b", []string{"ab", "a\u00e9b", "aab"}, []string{"", "a", "b", "aba"}},
		{"a***", []string{"a", "ab", "a\u4e2d"}, []string{"", "ba"}},
		{"**a**", []string{"a", "bab", "\u4e2da\u4e2d"}, []string{"", "b", "\u4e2d"}},
		{"*\u4e2d*\u4e2d*", []string{"\u4e2d\u4e2d", "a\u4e2d\u4e2e\u4e2d"}, []string{"", "\u4e2d", "\u4e2d\u4e2e"}},
		{"?*", []string{"a", "ab", "\U0001f98a"}, []string{""}},
		{"*?", []string{"a", "ab", "\U0001f98a"}, []string{""}},
		{"?*?", []string{"ab", "abc", "\u4e2d\u4e2d"}, []string{"", "a", "\u4e2d"}},
		{"*ab*ab", []string{"abab", "ababab", "xabxab"}, []string{"", "ab", "aab", "abaab\u00e9"}},
		{"*aab", []string{"aab", "aaab", "aaaab", "abaab"}, []string{"", "ab", "aba", "aabb"}},
		{"\u4e2d?\u4e2d", []string{"\u4e2d\u4e2d\u4e2d", "\u4e2da\u4e2d", "\u4e2d\U0001f98a\u4e2d"}, []string{"", "\u4e2d\u4e2d", "\u4e2da\u4e2e"}},
		{"\u00c9*\u0401", []string{"\u00e9\u0451", "\u00e9\u00e9\u0451\u0451"}, []string{"", "\u00c9\u0401", "\u00e9", "\u0451"}},
	} {
		d := wildOf(t, known.pattern)
		takes(t, known.pattern, d, known.in...)
		takesNot(t, known.pattern, d, known.notIn...)
	}
}

// 10.3: a pattern of sixteen characters, of one byte and of more: texts a character shorter and longer, and such as
// differ in one character's last byte.
func TestLongWild(t *testing.T) {
	for _, c := range []rune{'a', 'Y', 0xc8, 0x450, 0x4e2c, 0x9ffe} {
		s, one := strings.Repeat(string(c), 16), string(rune(utf.Fold(int(c))))
		other := string(rune(utf.Fold(int(c))) + 1)
		d := wildOf(t, s)
		takes(t, s, d, strings.Repeat(one, 16))
		takesNot(t, s, d, "", strings.Repeat(one, 15), strings.Repeat(one, 17), strings.Repeat(one, 15)+other)
		d = wildOf(t, s[:len(string(c))*15]+"*")
		takes(t, s, d, strings.Repeat(one, 15), strings.Repeat(one, 16), strings.Repeat(one, 15)+other)
		takesNot(t, s, d, "", strings.Repeat(one, 14), strings.Repeat(one, 14)+other+one)
		d = wildOf(t, "*"+s[:len(string(c))*15])
		takes(t, s, d, strings.Repeat(one, 15), strings.Repeat(one, 16), other+strings.Repeat(one, 15), one+other+strings.Repeat(one, 15))
		takesNot(t, s, d, "", strings.Repeat(one, 14), strings.Repeat(one, 15)+other, other+strings.Repeat(one, 14))
	}
}

// 10.1, 10.3: each letter stands for its folded character alone; each character is one for ? and is held by *.
func TestWildOfEachCharacter(t *testing.T) {
	one, behind, many := wildOf(t, "?"), wildOf(t, "*a?"), wildOf(t, "a*\u4e2d")
	for c := range api.MaxRune + 1 {
		if !utf.Whole(c) {
			continue
		}
		s := string(rune(c))
		takes(t, "?", one, s)
		takesNot(t, "?", one, s+s, s+"a", "a"+s)
		takes(t, "*a?", behind, "a"+s, s+"a"+s)
		takes(t, "a*\u4e2d", many, "a"+s+"\u4e2d", "a"+s+s+"\u4e2d")
		takesNot(t, "a*\u4e2d", many, "a"+s+"\u4e2e", "b"+s+"\u4e2d")
		if utf.Letter(c) {
			d, fold := wildOf(t, s), string(rune(utf.Fold(c)))
			takes(t, s, d, fold)
			takesNot(t, s, d, "", fold+fold, string(rune(utf.Fold(c)^1)))
			if fold != s {
				takesNot(t, s, d, s)
			}
		}
	}
}

// 10.3: all short patterns and all short texts of characters of one to four bytes, two of which differ in the last alone.
func TestShortPatterns(t *testing.T) {
	texts := textsOf("a\u00e9\u4e2d\u4e2e\U0001f98a", 5)
	for _, pattern := range textsOf("a\u00c9\u4e2d?*", 4)[1:] {
		d, want := wildOf(t, pattern), folded(pattern)
		for _, s := range texts {
			if taken(d, s) != matches(want, []rune(s)) {
				t.Errorf("%q takes %q: %v", pattern, s, taken(d, s))
			}
		}
	}
}

// 10.2: all short prefixes and all short texts.
func TestShortPrefixes(t *testing.T) {
	texts := textsOf("a\u00e9\u4e2d\u4e2e\U0001f98a", 5)
	for _, s := range textsOf("A\u00e9\u4e2db", 3)[1:] {
		d, want := prefixOf(t, s), string(folded(s))
		for _, text := range texts {
			if taken(d, text) != strings.HasPrefix(text, want) {
				t.Errorf("the prefix %q takes %q: %v", s, text, taken(d, text))
			}
		}
	}
}

// letters are those of which patterns are drawn.
var letters = []rune{'a', 'b', 'Z', '7', 0xe9, 0xc8, 0x3a3, 0x401, 0x4e2d, 0x4e2e, 0x4e6d, 0x9fff}

// drawnPattern draws one of few letters, so that they stand in it again and again, and of more or fewer marks.
func drawnPattern(r *rand.Rand) string {
	from := drawn(r, letters, 1+r.IntN(4))
	for range r.IntN(4) {
		from = append(from, oneOf(r, []rune{'*', '?', '*'}))
	}
	return string(drawn(r, from, 1+r.IntN(16)))
}

// 10.2, 10.3: drawn patterns, by numbers that are always the same, and texts that they match, or nearly do.
func TestDrawnPatterns(t *testing.T) {
	r := rand.New(rand.NewPCG(10, 3))
	for range 4000 {
		pattern := drawnPattern(r)
		if tooMany(pattern) {
			isNoWild(t, pattern, api.ErrMany)
			continue
		}
		d, want := wildOf(t, pattern), folded(pattern)
		for range 60 {
			text := filled(r, want)
			for range r.IntN(3) {
				text = changed(r, text)
			}
			if taken(d, string(text)) != matches(want, text) {
				t.Errorf("%q takes %q: %v", pattern, string(text), taken(d, string(text)))
			}
		}
	}
}

// 10.3: ErrMany just if behind the first star there are a ? and more than eight characters other than stars.
func TestTooMany(t *testing.T) {
	for _, s := range []string{
		"*?aaaaaaaa", "*aaaaaaaa?", "*aaaa?aaaa", "*?????????", "*??????????????", "*???????????????", "*a?a?a?a?a", "**?aaaaaaaa", "*?*a*a*a*a*a*aaa",
		"*?aaaaaaaa*", "a*?aaaaaaaa", "??????*?aaaaaaaa", "*?aaaaaaaaaaaaaa", "*aaaaaaaaaaaaaa?", "*a*a*a*a*aaaaa?", "*\u4e2d\u4e2d\u4e2d\u4e2d?\u4e2d\u4e2d\u4e2d\u4e2d",
		"*?abcdefgh", "*?ABCDEFGH", "aaaaaa*?aaaaaaaa",
	} {
		isNoWild(t, s, api.ErrMany)
	}
	for _, s := range []string{
		"*?aaaaaaa", "*aaaaaaa?", "*????????", "**??**??**??**??", "????????????????", "????????*???????", "????????aaaaaaa*",
		"?*aaaaaaaaaaaaaa", "??????*aaaaaaaaa", "*aaaaaaaaaaaaaaa", "*a*aaaaaaaaaaaaa", "a?a?*aaaaaaaaaaa", "aaaaaaaaaaaaaaa*", "?aaaaaaaaaaaaaa*", "*\u4e2d\u4e2d\u4e2d\u4e2d?\u4e2d\u4e2d\u4e2d",
		"abcdefg*?abcdefg", "*abcdefghijklmno", "?????????*", "aaaaaaaaaaaaaa?*", "*?*a*a*a*a*a*aa*",
	} {
		wildOf(t, s)
	}
}

// 10.3: where the ? stands, whatever else there is ahead of the first star and behind it.
func TestTooManyAtEachPlace(t *testing.T) {
	for ahead := range 16 {
		for behind := range 16 - ahead {
			begin := strings.Repeat("?", ahead) + "*"
			wildOf(t, begin+strings.Repeat("b", behind))
			for at := range behind {
				s := begin + strings.Repeat("b", at) + "?" + strings.Repeat("b", behind-at-1)
				if behind > 8 {
					isNoWild(t, s, api.ErrMany)
				} else {
					wildOf(t, s)
				}
				if stars := s + strings.Repeat("*", 16-len(s)); behind > 8 {
					isNoWild(t, stars, api.ErrMany)
				} else {
					wildOf(t, stars)
				}
			}
		}
	}
}

// 10.3: patterns with as many states as there can be: all of eight letters and questions behind a star.
func TestManyStates(t *testing.T) {
	r := rand.New(rand.NewPCG(10, 4))
	for bits := range 1 << 8 {
		pattern := []rune("?aaaa\u9fffa*")
		for i := range 8 {
			if bits>>i&1 == 1 {
				pattern = append(pattern, '?')
			} else {
				pattern = append(pattern, letters[8+i%4])
			}
		}
		d := wildOf(t, string(pattern))
		for range 300 {
			text := filled(r, pattern)
			for range r.IntN(3) {
				text = changed(r, text)
			}
			if taken(d, string(text)) != matches(pattern, text) {
				t.Errorf("%q takes %q: %v", string(pattern), string(text), taken(d, string(text)))
			}
		}
	}
	for _, s := range []string{
		"*a???????", "*\u4e2d???????", "?????*\u4e00???????**", "*\u4e2d\u00e9\u9fffa\u4e2d\u00e9\u9fff\u4e2e\u4e2d\u00e9\u9fffa\u4e2d\u00e9\u9fff", "*\u4e00\u4e00\u4e00\u4e00*\u0451*\u9000*\u00e9*\u00e9*\u00e9",
	} {
		d := wildOf(t, s)
		takesNot(t, s, d, "", "\u4e2d")
	}
}

// 10.4: a pattern without marks matches its folded characters alone; with a star behind it, what the prefix takes.
func TestWithoutMarks(t *testing.T) {
	r := rand.New(rand.NewPCG(10, 5))
	for range 500 {
		s := string(drawn(r, letters, 1+r.IntN(16)))
		if d := wildOf(t, s); !alike(onCharacters(d), alone(string(folded(s)))) {
			t.Errorf("Wild(%q) takes other texts than its characters", s)
		}
		if n := len([]rune(s)); n < 16 {
			if d := wildOf(t, s+"*"); !alike(onCharacters(d), onCharacters(prefixOf(t, s))) {
				t.Errorf("Wild(%q) takes other texts than the prefix", s+"*")
			}
		}
	}
}

// 10.3: patterns that say the same take the same.
func TestSamePatterns(t *testing.T) {
	for _, same := range [][]string{
		{"*", "**", "***", "****************"},
		{"a*b", "a**b", "A***B", "a**************b"},
		{"?*", "*?", "**?**", "?**"},
		{"a?*b", "a*?b", "A*?*b"},
		{"??*", "*??", "?*?", "*?*?*"},
		{"\u4e2d*?\u00e9", "\u4e2d?*\u00c9"},
		{"FOX", "fox", "fOx"},
		{"\u03a3*", "\u03c3*", "\u03c2**"},
	} {
		want := onCharacters(wildOf(t, same[0]))
		for _, s := range same[1:] {
			if !alike(onCharacters(wildOf(t, s)), want) {
				t.Errorf("%q and %q take other texts", same[0], s)
			}
		}
	}
}

// dirty writes into each list of an answer, spare room included.
func dirty[T any](list []T, to T) {
	list = list[:cap(list)]
	for i := range list {
		list[i] = to
	}
}

// Rule 4: what Letters answers is new memory.
func TestLettersAreNew(t *testing.T) {
	for _, s := range []string{"fox", "F?x*", "\u4e2d", strings.Repeat("a", 16)} {
		want, _ := wild.Letters(s, "*?")
		want = slices.Clone(want)
		one, _ := wild.Letters(s, "*?")
		other, _ := wild.Letters(s, "*?")
		dirty(one, -1)
		one = append(one, -2)
		if !slices.Equal(other, want) {
			t.Errorf("Letters(%q): %x behind a change of another answer, want %x", s, other, want)
		}
		isLetters(t, s, "*?", want...)
	}
}

// isNew tells of automata that share memory with one another, or within themselves, their spare room included.
func isNew(t *testing.T, of string, ask func(s string) ([]api.State, api.Errno)) {
	t.Helper()
	first, _ := ask(of)
	want := copyOf(first)
	d, _ := ask(of)
	other, _ := ask(of)
	for i := range d {
		dirty(d[i].Arcs, api.Arc{Lo: -1, Hi: -1, To: -1})
		d[i].Arcs = append(d[i].Arcs, api.Arc{Lo: -2, Hi: -2, To: -2})
		if !alike(d[i+1:], want[i+1:]) {
			t.Errorf("%q: states behind state %d are changed with it", of, i)
		}
	}
	dirty(d, api.State{Final: true})
	d = append(d, api.State{})
	again, e := ask(of)
	if e != api.OK || !alike(first, want) || !alike(other, want) || !alike(again, want) {
		t.Errorf("%q: another answer is changed too", of)
	}
}

// Rule 4, rule 6: automata are new memory, and the same each time.
func TestAutomataAreNew(t *testing.T) {
	for _, s := range []string{"a", "fox", "Caf\u00c9", "\u4e2d\u4e2d", strings.Repeat("\u4e2d", 16)} {
		isNew(t, s, wild.Prefix)
		isNew(t, s, wild.Wild)
	}
	for _, s := range []string{"*", "?", "f?x*", "*a?", "a**b", "*\u4e2d??\u00e9", "****************"} {
		isNew(t, s, wild.Wild)
	}
}
