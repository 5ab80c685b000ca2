package token_test

import (
	"slices"
	"strings"
	"testing"
	"unicode/utf8"

	"gloss/api"
	"gloss/token"
	"gloss/utf"
)

// noText are bytes that are no characters, of each kind.
var noText = []string{
	"\xff", "\xfe", "\x80", "\xbf", "\xc3", "\xe2\x82", "\xf0\x9f\xa6", "\xc3\xc3\xa9", "\xa9\xc3",
	"\xc0\x80", "\xc1\xa1", "\xe0\x83\xa9", "\xf0\x84\xb8\xad", "\xed\xa0\x80", "\xed\xbf\xbf", "\xf4\x90\x80\x80", "\xf8\x88\x80\x80\x80",
}

// texts are ordinary ones and those with nothing, one term, or none, with and without letters at their ends.
var texts = []string{
	"", " ", "  ", ".", "?!", "\x00", "\n\t", "a", "B", "7", "fox", "FOX", "Fox!", " fox", "fox ", "-fox-", "the fox", "The quick-brown FOX",
	"a b", "a  b", "a,b;c", "a_b", "don't", "3.14", "x1\u00d72", "\u00d7", "\u00f7\u00f7", "\u00c9", "CAF\u00c9 \u03a3\u03c2", "\u03a3 \u03c3 \u03c2",
	"\u0401\u0436 \u0411", "\u4e2d\u6587", "\u4e2d \u6587", "a\u4e2db", "\U0001f98a", "a\U0001f98ab", "\ufeffa", "\u3042", "\ufffd", "a\ufffdb",
	"\u00a0a\u00a0", "e\u0301a", "fox fox Fox",
}

// reckoned answers the terms of a text as the chapter tells them.
func reckoned(s string) ([]string, api.Errno) {
	if len(s) > api.MaxText {
		return nil, api.ErrLimit
	}
	if !utf8.ValidString(s) {
		return nil, api.ErrUTF
	}
	words := strings.FieldsFunc(s, func(c rune) bool { return !utf.Letter(int(c)) })
	for i, word := range words {
		words[i] = strings.Map(func(c rune) rune { return rune(utf.Fold(int(c))) }, word)
		if len(words[i]) > api.MaxTerm {
			return nil, api.ErrLimit
		}
	}
	return words, api.OK
}

// brief answers a text, or what it begins with.
func brief(s string) string {
	if len(s) <= 100 {
		return s
	}
	return s[:100] + ".."
}

// hasTerms tells of a text that hasn't just these terms, at 0, 1, 2 and so on.
func hasTerms(t *testing.T, s string, want ...string) {
	list, e := token.Tokens(s)
	ok := e == api.OK && len(list) == len(want)
	for i := 0; ok && i < len(list); i++ {
		ok = list[i] == api.Token{Term: want[i], At: i}
	}
	if !ok {
		t.Helper()
		t.Errorf("Tokens of %q (%d bytes): %v, error %d; want %q", brief(s), len(s), list, e, want)
	}
}

// isRefused tells of a text of which Tokens and Term don't answer an error, and nothing beside it.
func isRefused(t *testing.T, s string, want api.Errno) {
	if list, e := token.Tokens(s); e != want || len(list) != 0 {
		t.Helper()
		t.Errorf("Tokens of %q (%d bytes): %v, error %d; want error %d", brief(s), len(s), list, e, want)
	}
	if term, e := token.Term(s); e != want || term != "" {
		t.Helper()
		t.Errorf("Term of %q (%d bytes): %q, error %d; want error %d", brief(s), len(s), term, e, want)
	}
}

// isTerm tells of a text whose only term isn't this one.
func isTerm(t *testing.T, s, want string) {
	hasTerms(t, s, want)
	if term, e := token.Term(s); e != api.OK || term != want {
		t.Helper()
		t.Errorf("Term of %q: %q, error %d; want %q", brief(s), term, e, want)
	}
}

// isNoTerm tells of a text that Term takes, though it has no term, or more than one.
func isNoTerm(t *testing.T, s string) {
	if term, e := token.Term(s); e != api.ErrQuery || term != "" {
		t.Helper()
		t.Errorf("Term of %q: %q, error %d; want error %d", brief(s), term, e, api.ErrQuery)
	}
}

// isFolded tells of a text that isn't folded to these characters.
func isFolded(t *testing.T, s string, want ...int) {
	if list, e := token.Folded(s); e != api.OK || !slices.Equal(list, want) {
		t.Helper()
		t.Errorf("Folded of %q (%d bytes): %x, error %d; want %x", brief(s), len(s), list, e, want)
	}
}

// isAsReckoned tells of a text of which Tokens and Term answer otherwise than the chapter.
func isAsReckoned(t *testing.T, s string) {
	want, e := reckoned(s)
	switch {
	case e != api.OK:
		isRefused(t, s, e)
	case len(want) == 1:
		isTerm(t, s, want[0])
	default:
		hasTerms(t, s, want...)
		isNoTerm(t, s)
	}
}

// eachCharacter goes over all characters, rising.
func eachCharacter(do func(c int, s string)) {
	for c := range api.MaxRune + 1 {
		if utf.Whole(c) {
			do(c, string(rune(c)))
		}
	}
}

// 6.1: the chapter's examples and ordinary texts: the terms are folded, in their order, each at its place.
func TestTokens(t *testing.T) {
	hasTerms(t, "The quick-brown FOX", "the", "quick", "brown", "fox")
	hasTerms(t, "x1\u00d72", "x1", "2")
	hasTerms(t, "fox", "fox")
	hasTerms(t, "fox Fox FOX", "fox", "fox", "fox")
	hasTerms(t, "b a c", "b", "a", "c")
	hasTerms(t, "a_b don't 3.14", "a", "b", "don", "t", "3", "14")
	hasTerms(t, "CAF\u00c9 \u03a3\u03c2", "caf\u00e9", "\u03c3\u03c3")
	hasTerms(t, "\u0401\u0436 \u0411", "\u0451\u0436", "\u0431")
	hasTerms(t, "\u4e2d\u6587 Go1", "\u4e2d\u6587", "go1")
	hasTerms(t, "a\U0001f98ab\ufffdc\u0301d", "a", "b", "c", "d")
	hasTerms(t, "a\x00b\nc\td", "a", "b", "c", "d")
}

// 6.1: texts without a term; texts that begin or end with one, or with something else.
func TestTokensAtTheEnds(t *testing.T) {
	for _, s := range []string{"", " ", "\x00", " ,.", "-_-", "\u00d7\u00f7", "\u3042", "\U0001f98a", "\ufffd", strings.Repeat(" ", 100)} {
		hasTerms(t, s)
	}
	for _, beside := range []string{"", " ", "..", "\u00d7", "\u20ac", "\U0001f98a", " \u00a0 "} {
		for _, behind := range []string{"", " ", "!?", "\u00f7", "\ufeff", "\U0010ffff"} {
			hasTerms(t, beside+"A"+behind, "a")
			hasTerms(t, beside+"\u00c9x\u4e2d"+behind, "\u00e9x\u4e2d")
			hasTerms(t, beside+"One two"+behind, "one", "two")
			hasTerms(t, beside+"1\u00d7\u0401"+behind, "1", "\u0451")
		}
	}
}

// 6.1: characters at the ends of the ranges of letters, and beside them.
func TestTokensAtTheRanges(t *testing.T) {
	for _, known := range []struct {
		c      rune
		folded string
	}{
		{'0', "0"}, {'9', "9"}, {'A', "a"}, {'Z', "z"}, {'a', "a"}, {'z', "z"},
		{0xc0, "\u00e0"}, {0xd6, "\u00f6"}, {0xd8, "\u00f8"}, {0xde, "\u00fe"}, {0xdf, "\u00df"}, {0xf6, "\u00f6"}, {0xf8, "\u00f8"},
		{0x24f, "\u024f"}, {0x370, "\u0370"}, {0x37d, "\u037d"}, {0x37f, "\u037f"}, {0x391, "\u03b1"}, {0x3a2, "\u03a2"},
		{0x3a3, "\u03c3"}, {0x3a9, "\u03c9"}, {0x3c2, "\u03c3"}, {0x400, "\u0450"}, {0x40f, "\u045f"}, {0x410, "\u0430"},
		{0x42f, "\u044f"}, {0x481, "\u0481"}, {0x483, "\u0483"}, {0x52f, "\u052f"}, {0x4e00, "\u4e00"}, {0x9fff, "\u9fff"},
	} {
		s := string(known.c)
		isTerm(t, s, known.folded)
		isTerm(t, "X"+s+"Y", "x"+known.folded+"y")
		hasTerms(t, s+" "+s, known.folded, known.folded)
	}
	for _, c := range []rune{
		0, ' ', '\'', '-', '_', '0' - 1, '9' + 1, 'A' - 1, 'Z' + 1, 'a' - 1, 'z' + 1, 0x7f, 0x80, 0xaa, 0xb5, 0xbf, 0xd7, 0xf7,
		0x250, 0x36f, 0x37e, 0x482, 0x530, 0x800, 0x4dff, 0xa000, 0xac00, 0xfffd, 0xffff, 0x10000, 0x10400, 0x20000, 0x10ffff,
	} {
		s := string(c)
		hasTerms(t, s)
		isTerm(t, s+"X"+s, "x")
		hasTerms(t, "X"+s+"Y", "x", "y")
	}
}

// 6.1, 6.2: each character alone, and within a text.
func TestTokensOfEachCharacter(t *testing.T) {
	eachCharacter(func(c int, s string) {
		folded := string(rune(utf.Fold(c)))
		if utf.Letter(c) {
			isTerm(t, s, folded)
			hasTerms(t, "A"+s+"B "+s, "a"+folded+"b", folded)
			return
		}
		hasTerms(t, s)
		isNoTerm(t, s)
		hasTerms(t, "A"+s+"B "+s, "a", "b")
	})
}

// 6.1, 6.2: all short texts of letters, of what stands between them, and of bytes that are no characters.
func TestTokensOfShortTexts(t *testing.T) {
	pieces := []string{"a", "B", "7", " ", "-", "\u00c9", "\u00d7", "\u03c2", "\u4e2d", "\U0001f98a", "\xff", "\xc3"}
	var grow func(s string, more int)
	grow = func(s string, more int) {
		isAsReckoned(t, s)
		for i := 0; more > 0 && i < len(pieces); i++ {
			grow(s+pieces[i], more-1)
		}
	}
	grow("", 5)
}

// 6.1: a text has at most api.MaxText bytes, be they of as many characters or of fewer.
func TestLongTexts(t *testing.T) {
	for _, piece := range []string{" ", "a ", " a", "A-", "\u00d7", "\u00c9 \u00c9 ", "\u4e2d. ", "\u20ac ", "\U0001f98a", strings.Repeat("Abc", 21) + ","} {
		most := strings.Repeat(piece, api.MaxText/len(piece))
		most += strings.Repeat(" ", api.MaxText-len(most))
		if want, e := reckoned(most); e != api.OK {
			t.Errorf("%q may not be a text: error %d", brief(most), e)
		} else {
			hasTerms(t, most, want...)
		}
		isRefused(t, most+" ", api.ErrLimit)
		isRefused(t, " "+most, api.ErrLimit)
		isRefused(t, "a"+most, api.ErrLimit)
		isRefused(t, most+"a", api.ErrLimit)
		isRefused(t, most+"\u4e2d", api.ErrLimit)
		isRefused(t, most+most, api.ErrLimit)
	}
	hasTerms(t, strings.Repeat("a ", api.MaxText/2), slices.Repeat([]string{"a"}, api.MaxText/2)...)
	hasTerms(t, strings.Repeat(" ", api.MaxText-3)+"Fox", "fox")
	hasTerms(t, "Fox"+strings.Repeat(" ", api.MaxText-3), "fox")
	isTerm(t, strings.Repeat(" ", api.MaxText-1)+"A", "a")
	isRefused(t, strings.Repeat(" ", api.MaxText)+"A", api.ErrLimit)
	isRefused(t, strings.Repeat("\u4e2d ", 1025), api.ErrLimit)
	isRefused(t, strings.Repeat("a", 1<<20), api.ErrLimit)
}

// 6.1, 6.2: a term has at most api.MaxTerm bytes, be its characters of one, of two or of three, wherever it stands.
func TestLongTerms(t *testing.T) {
	for _, known := range []struct{ most, folded string }{
		{strings.Repeat("x", 64), strings.Repeat("x", 64)},
		{strings.Repeat("X", 64), strings.Repeat("x", 64)},
		{strings.Repeat("7", 64), strings.Repeat("7", 64)},
		{strings.Repeat("\u00c9", 32), strings.Repeat("\u00e9", 32)},
		{strings.Repeat("\u03c2", 32), strings.Repeat("\u03c3", 32)},
		{strings.Repeat("\u0401", 32), strings.Repeat("\u0451", 32)},
		{strings.Repeat("\u4e2d", 21) + "X", strings.Repeat("\u4e2d", 21) + "x"},
		{"X" + strings.Repeat("\u9fff", 21), "x" + strings.Repeat("\u9fff", 21)},
		{strings.Repeat("\u4e00", 20) + "\u00c9\u00e9", strings.Repeat("\u4e00", 20) + "\u00e9\u00e9"},
		{strings.Repeat("X\u00d8", 20) + "\u4e2dA", strings.Repeat("x\u00f8", 20) + "\u4e2da"},
	} {
		if len(known.most) != api.MaxTerm {
			t.Errorf("%q has %d bytes", known.most, len(known.most))
		}
		isTerm(t, known.most, known.folded)
		isTerm(t, "\u20ac"+known.most+"\u20ac", known.folded)
		hasTerms(t, "A "+known.most+"-B "+known.most, "a", known.folded, "b", known.folded)
		for _, more := range []string{"x", "X", "7", "\u00e9", "\u00c9", "\u4e2d", known.most} {
			for _, long := range []string{known.most + more, more + known.most} {
				isRefused(t, long, api.ErrLimit)
				isRefused(t, "a "+long, api.ErrLimit)
				isRefused(t, long+" b", api.ErrLimit)
				isRefused(t, "a "+long+" b", api.ErrLimit)
				isRefused(t, long+" "+long, api.ErrLimit)
				isRefused(t, known.most+" "+long+" "+known.most, api.ErrLimit)
			}
		}
	}
	isRefused(t, strings.Repeat("\u00c9", 33), api.ErrLimit)
	isRefused(t, strings.Repeat("\u4e2d", 22), api.ErrLimit)
	isRefused(t, strings.Repeat("\u4e2d", 21)+"\u00e9", api.ErrLimit)
	isRefused(t, strings.Repeat("a", api.MaxText), api.ErrLimit)
	// These aren't letters, so no term is that long.
	hasTerms(t, strings.Repeat("_", 200))
	hasTerms(t, strings.Repeat("\u00d7", 200))
	hasTerms(t, strings.Repeat("\U0001f98a", 200))
}

// 6.1, 6.2: terms of each length up to two bytes past the limit.
func TestTermsOfEachLength(t *testing.T) {
	for _, c := range []string{"a", "Z", "0", "\u00c0", "\u03a9", "\u042f", "\u4e2d"} {
		for n := 1; n*len(c) <= api.MaxTerm+2; n++ {
			for _, s := range []string{strings.Repeat(c, n), strings.Repeat(c, n-1) + "b", strings.Repeat(c, n) + "b", "b" + strings.Repeat(c, n)} {
				isAsReckoned(t, s)
				isAsReckoned(t, "a."+s+".")
			}
		}
	}
}

// 6.1, 6.2: bytes that are no characters, wherever they stand.
func TestNoCharacters(t *testing.T) {
	for _, wrong := range noText {
		for _, s := range []string{wrong, "a" + wrong, wrong + "a", " " + wrong, wrong + " ", "fox " + wrong + " fox", "\u4e2d" + wrong + "\u00e9", wrong + wrong} {
			isRefused(t, s, api.ErrUTF)
		}
	}
	most := strings.Repeat("fox ", api.MaxText/4)
	for at := 0; at < len(most); at += 31 {
		isRefused(t, most[:at]+"\xff"+most[at+1:], api.ErrUTF)
	}
	isRefused(t, most[:api.MaxText-1]+"\xff", api.ErrUTF)
	isRefused(t, "\xff"+most[1:], api.ErrUTF)
}

// 6.1, 6.2: of several errors the one that the chapter names first.
func TestErrorsInTheirOrder(t *testing.T) {
	long := strings.Repeat("x", api.MaxTerm+1)
	blanks := strings.Repeat(" ", api.MaxText)
	for _, wrong := range noText {
		// A text too long, of bytes that are no characters.
		isRefused(t, blanks+wrong, api.ErrLimit)
		isRefused(t, wrong+blanks, api.ErrLimit)
		isRefused(t, strings.Repeat(wrong, api.MaxText+1), api.ErrLimit)
		isRefused(t, strings.Repeat(wrong, api.MaxText/len(wrong)), api.ErrUTF)
		// And with a term too long beside.
		isRefused(t, wrong+blanks+long, api.ErrLimit)
		isRefused(t, long+blanks+wrong, api.ErrLimit)
		// A term too long, and bytes that are no characters ahead of it, behind it or in its midst.
		isRefused(t, wrong+long, api.ErrUTF)
		isRefused(t, long+wrong, api.ErrUTF)
		isRefused(t, wrong+" "+long, api.ErrUTF)
		isRefused(t, long+" "+wrong, api.ErrUTF)
		isRefused(t, long+wrong+long, api.ErrUTF)
		isRefused(t, "a "+long+" b "+wrong, api.ErrUTF)
		// Two terms, or none, and bytes that are no characters.
		isRefused(t, "a b "+wrong, api.ErrUTF)
		isRefused(t, wrong+" ", api.ErrUTF)
	}
	// A text too long with a term too long, with two terms and with none.
	isRefused(t, blanks+long, api.ErrLimit)
	isRefused(t, blanks+" ", api.ErrLimit)
	isRefused(t, "a b"+blanks, api.ErrLimit)
	// Two terms, one of them too long.
	isRefused(t, "a "+long, api.ErrLimit)
	isRefused(t, long+" a", api.ErrLimit)
	isRefused(t, long+" "+long, api.ErrLimit)
}

// 6.2: texts with one term, whatever stands around it, and texts with none or more.
func TestTerm(t *testing.T) {
	for s, want := range map[string]string{
		"fox": "fox", "Fox!": "fox", " FOX ": "fox", "...fox": "fox", "a": "a", "\u00c9": "\u00e9", "\u03a3\u03c2": "\u03c3\u03c3",
		"\u00d7A\u00f7": "a", "\u4e2d\u6587": "\u4e2d\u6587", "2026": "2026", "\U0001f98ax\x00": "x", strings.Repeat("y", 64): strings.Repeat("y", 64),
	} {
		isTerm(t, s, want)
	}
	for _, s := range []string{
		"", " ", "!", "\u00d7", "\U0001f98a", "a b", "a a", "fox-fox", "the quick brown", "a_b", "x\u00d7y", "\u4e2d \u6587", "fox's",
		strings.Repeat(" ", api.MaxText), strings.Repeat("a ", api.MaxText/2), strings.Repeat("x", 64) + " " + strings.Repeat("x", 64),
	} {
		isNoTerm(t, s)
	}
}

// 6.3: all characters stay, each folded; of what isn't a letter as well as of what is.
func TestFolded(t *testing.T) {
	isFolded(t, "")
	isFolded(t, "A?\u00c9", 'a', '?', 0xe9)
	isFolded(t, "The FOX", 't', 'h', 'e', ' ', 'f', 'o', 'x')
	isFolded(t, "f*x", 'f', '*', 'x')
	isFolded(t, "\u03a3\u03c2\u03c3", 0x3c3, 0x3c3, 0x3c3)
	isFolded(t, "\u0401\u0411", 0x451, 0x431)
	isFolded(t, "\u00d7\u00f7\u00d8", 0xd7, 0xf7, 0xf8)
	isFolded(t, "\x00 \u20ac\ufffd\U0001f98a\U0010ffff", 0, ' ', 0x20ac, 0xfffd, 0x1f98a, 0x10ffff)
	var all strings.Builder
	var want []int
	eachCharacter(func(c int, s string) {
		isFolded(t, s, utf.Fold(c))
		all.WriteString(s)
		want = append(want, utf.Fold(c))
	})
	if list, e := token.Folded(all.String()); e != api.OK || !slices.Equal(list, want) {
		t.Errorf("all characters are folded otherwise, error %d", e)
	}
}

// 6.3: neither the text's length nor a term's is limited; bytes that are no characters are refused.
func TestFoldedLimitsAndErrors(t *testing.T) {
	isFolded(t, strings.Repeat("X", api.MaxTerm+1), slices.Repeat([]int{'x'}, api.MaxTerm+1)...)
	isFolded(t, strings.Repeat(" ", api.MaxText+1), slices.Repeat([]int{' '}, api.MaxText+1)...)
	isFolded(t, strings.Repeat("\u00c9", api.MaxText), slices.Repeat([]int{0xe9}, api.MaxText)...)
	long := strings.Repeat("X", 2*api.MaxText)
	for _, wrong := range noText {
		for _, s := range []string{wrong, "A" + wrong, wrong + "A", " " + wrong + " ", "\u4e2d" + wrong + "\u00e9", long + wrong, wrong + long} {
			if list, e := token.Folded(s); e != api.ErrUTF || len(list) != 0 {
				t.Errorf("Folded of %q (%d bytes): %x, error %d; want error %d", brief(s), len(s), list, e, api.ErrUTF)
			}
		}
	}
}

// 6.4: the terms of two texts with a blank between are those of the one, then those of the other.
func TestTwoTexts(t *testing.T) {
	more := append(slices.Clone(texts), strings.Repeat("x", 64), strings.Repeat("\u00c9", 32)+" "+strings.Repeat("\u4e2d", 21), strings.Repeat("a ", 1000))
	for _, a := range more {
		ofA, e := token.Tokens(a)
		if e != api.OK {
			t.Errorf("Tokens of %q: error %d", brief(a), e)
		}
		for _, b := range more {
			ofB, _ := token.Tokens(b)
			var want []string
			for _, x := range append(slices.Clone(ofA), ofB...) {
				want = append(want, x.Term)
			}
			hasTerms(t, a+" "+b, want...)
		}
	}
}

// 6.4: each term is a text whose only term it is.
func TestTermsOfTerms(t *testing.T) {
	more := append(slices.Clone(texts), strings.Repeat("X", 64), strings.Repeat("\u03c2", 32), strings.Repeat("\u4e2d", 21)+"Y")
	for _, s := range more {
		list, e := token.Tokens(s)
		if e != api.OK {
			t.Errorf("Tokens of %q: error %d", brief(s), e)
		}
		for _, x := range list {
			isTerm(t, x.Term, x.Term)
		}
	}
	eachCharacter(func(c int, s string) {
		if list, _ := token.Tokens(s); len(list) == 1 {
			isTerm(t, list[0].Term, list[0].Term)
		}
	})
}

// 6.1, 6.3: what is handed out is new, with its spare room: what is written there no later answer shows.
func TestNewMemory(t *testing.T) {
	const s = "The quick-brown FOX"
	first, _ := token.Tokens(s)
	second, _ := token.Tokens(s)
	whole := first[:cap(first)]
	for i := range whole {
		whole[i] = api.Token{Term: "?", At: -1}
	}
	want := []api.Token{{Term: "the", At: 0}, {Term: "quick", At: 1}, {Term: "brown", At: 2}, {Term: "fox", At: 3}}
	if !slices.Equal(second, want) {
		t.Errorf("an earlier answer has become %v", second)
	}
	hasTerms(t, s, "the", "quick", "brown", "fox")

	one, _ := token.Folded(s)
	two, _ := token.Folded(s)
	all := one[:cap(one)]
	for i := range all {
		all[i] = -1
	}
	letters := []int{'t', 'h', 'e', ' ', 'q', 'u', 'i', 'c', 'k', '-', 'b', 'r', 'o', 'w', 'n', ' ', 'f', 'o', 'x'}
	if !slices.Equal(two, letters) {
		t.Errorf("an earlier answer has become %x", two)
	}
	isFolded(t, s, letters...)
}
