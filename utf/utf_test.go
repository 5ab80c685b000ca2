package utf_test

import (
	"math"
	"slices"
	"strings"
	"sync"
	"testing"

	"gloss/api"
	"gloss/utf"
)

// span is a row of numbers, from the first to the last.
type span struct{ first, last int }

// characters are all that are, by the lengths of their bytes and by what lies between.
var characters = []span{{0, 0x7f}, {0x80, 0x7ff}, {0x800, 0xd7ff}, {0xe000, 0xffff}, {0x10000, 0x10ffff}}

// letters are all that stand in words.
var letters = []span{
	{'0', '9'}, {'A', 'Z'}, {'a', 'z'},
	{0xc0, 0xd6}, {0xd8, 0xf6}, {0xf8, 0x24f},
	{0x370, 0x37d}, {0x37f, 0x481}, {0x483, 0x52f}, {0x4e00, 0x9fff},
}

// folds are all that are folded, and what is added to each.
var folds = []struct {
	span
	by int
}{
	{span{'A', 'Z'}, 0x20},
	{span{0xc0, 0xd6}, 0x20}, {span{0xd8, 0xde}, 0x20},
	{span{0x391, 0x3a1}, 0x20}, {span{0x3a3, 0x3a9}, 0x20},
	{span{0x3c2, 0x3c2}, 1},
	{span{0x400, 0x40f}, 0x50}, {span{0x410, 0x42f}, 0x20},
}

// edges are characters at the ends of each length of bytes and of the half pairs, and with few or many bits.
var edges = []int{
	0, 1, 'A', 'a', 0x7e, 0x7f, 0x80, 0x81, 0xbf, 0xc0, 0xff, 0x7fe, 0x7ff, 0x800, 0x801, 0xfff, 0x1000, 0x20ac,
	0xcfff, 0xd000, 0xd7fe, 0xd7ff, 0xe000, 0xe001, 0xfffd, 0xfffe, 0xffff, 0x10000, 0x10001, 0x3ffff, 0x40000,
	0xfffff, 0x100000, 0x10fffe, 0x10ffff,
}

// noCharacters are numbers that are none, among them those that four bytes could tell, and those whose lowest bits are a
// character's.
var noCharacters = []int{
	-1, -2, -'a', -0x80, -0x10ffff, 0xd800, 0xd801, 0xdabc, 0xdbff, 0xdc00, 0xdffe, 0xdfff, 0x110000, 0x110001,
	0x13ffff, 0x1fffff, 0x200000, 1<<31 - 1, 1 << 31, 1 << 32, 1<<32 + 'a', 'a' - 1<<32, 1<<40 + 0x20ac, -1 << 32,
	math.MinInt32, math.MinInt, math.MinInt + 'a', math.MaxInt - 1, math.MaxInt,
}

// has tells whether a number is in one of the rows.
func has(rows []span, c int) bool {
	return slices.ContainsFunc(rows, func(r span) bool { return r.first <= c && c <= r.last })
}

// eachNumber goes over the characters and what lies around and between them, and over the numbers that are none.
func eachNumber(do func(c int)) {
	for c := -0x300; c < 0x110300; c++ {
		do(c)
	}
	for _, c := range noCharacters {
		do(c)
	}
}

// eachCharacter goes over all characters, rising.
func eachCharacter(do func(c int)) {
	for _, r := range characters {
		for c := r.first; c <= r.last; c++ {
			do(c)
		}
	}
}

// written answers a number in the bytes that the chapter tells: those of a greater one than there is likewise.
func written(c int) string {
	switch {
	case c < 0x80:
		return string([]byte{byte(c)})
	case c < 0x800:
		return string([]byte{byte(0xc0 + c/0x40), byte(0x80 + c%0x40)})
	case c < 0x10000:
		return string([]byte{byte(0xe0 + c/0x1000), byte(0x80 + c%0x1000/0x40), byte(0x80 + c%0x40)})
	}
	return string([]byte{byte(0xf0 + c/0x40000), byte(0x80 + c/0x1000%0x40), byte(0x80 + c/0x40%0x40), byte(0x80 + c%0x40)})
}

// writtenIn answers a number in so many bytes, two to six, which may be more than it needs.
func writtenIn(size, c int) string {
	out := make([]byte, size)
	for i := size - 1; i > 0; i-- {
		out[i] = byte(0x80 + c%0x40)
		c /= 0x40
	}
	out[0] = byte(0xff<<(8-size)) + byte(c)
	return string(out)
}

// byForm finds each character by its bytes.
var byForm = sync.OnceValue(func() map[string]int {
	forms := make(map[string]int, 0x110000)
	eachCharacter(func(c int) { forms[written(c)] = c })
	return forms
})

// readByTrying answers the characters of bytes, each found by its form, and whether there are such. No form is
// another one's beginning.
func readByTrying(s string) ([]int, bool) {
	var list []int
	forms := byForm()
	for s != "" {
		size := 1
		c, ok := forms[s[:size]]
		for !ok && size < min(4, len(s)) {
			size++
			c, ok = forms[s[:size]]
		}
		if !ok {
			return nil, false
		}
		list, s = append(list, c), s[size:]
	}
	return list, true
}

// isWritten tells of characters that aren't written as these bytes.
func isWritten(t *testing.T, list []int, want string) {
	if s, e := utf.Encode(list); e != api.OK || s != want {
		t.Helper()
		t.Errorf("Encode(%x) = % x, error %d; want % x", list, s, e, want)
	}
}

// isRead tells of bytes that aren't read as these characters.
func isRead(t *testing.T, s string, want []int) {
	if list, e := utf.Decode(s); e != api.OK || !slices.Equal(list, want) {
		t.Helper()
		t.Errorf("Decode(% x) = %x, error %d; want %x", s, list, e, want)
	}
}

// isNoText tells of bytes that are read.
func isNoText(t *testing.T, s string) {
	if list, e := utf.Decode(s); e != api.ErrUTF || len(list) != 0 {
		t.Helper()
		t.Errorf("Decode(% x) = %x, error %d; want error %d", s, list, e, api.ErrUTF)
	}
}

// isNoTextAnywhere tells of bytes that are read alone, or with characters ahead of them or behind.
func isNoTextAnywhere(t *testing.T, s string) {
	t.Helper()
	for _, s := range []string{s, "a" + s, s + "a", "\xf4\x8f\xbf\xbf" + s, "\u20ac" + s + "\u0080"} {
		isNoText(t, s)
	}
}

// 5.1: which numbers are characters.
func TestWhole(t *testing.T) {
	for _, c := range edges {
		if !utf.Whole(c) {
			t.Errorf("%x is no character", c)
		}
	}
	for _, c := range noCharacters {
		if utf.Whole(c) {
			t.Errorf("%x is a character", c)
		}
	}
	eachNumber(func(c int) {
		if utf.Whole(c) != has(characters, c) {
			t.Errorf("Whole(%x) = %v", c, utf.Whole(c))
		}
	})
}

// 5.1, 5.2: the chapter's example, and the first and the last number of each length of bytes.
func TestExamples(t *testing.T) {
	for _, known := range []struct {
		list []int
		s    string
	}{
		{nil, ""},
		{[]int{}, ""},
		{[]int{0x20ac}, "\xe2\x82\xac"},
		{[]int{0}, "\x00"},
		{[]int{0x7f}, "\x7f"},
		{[]int{0x80}, "\xc2\x80"},
		{[]int{0x7ff}, "\xdf\xbf"},
		{[]int{0x800}, "\xe0\xa0\x80"},
		{[]int{0xd7ff}, "\xed\x9f\xbf"},
		{[]int{0xe000}, "\xee\x80\x80"},
		{[]int{0xfffd}, "\xef\xbf\xbd"},
		{[]int{0xfeff}, "\xef\xbb\xbf"},
		{[]int{0xffff}, "\xef\xbf\xbf"},
		{[]int{0x10000}, "\xf0\x90\x80\x80"},
		{[]int{0x3ffff}, "\xf0\xbf\xbf\xbf"},
		{[]int{0x40000}, "\xf1\x80\x80\x80"},
		{[]int{0x10ffff}, "\xf4\x8f\xbf\xbf"},
		{[]int{'f', 'o', 'x'}, "fox"},
		{[]int{0, 0, 0xe9, 0, 0x4e2d, 0x1f98a, 'x'}, "\x00\x00\xc3\xa9\x00\xe4\xb8\xad\xf0\x9f\xa6\x8ax"},
	} {
		isWritten(t, known.list, known.s)
		isRead(t, known.s, known.list)
	}
}

// 5.1, 5.2: each character alone.
func TestEachCharacter(t *testing.T) {
	eachCharacter(func(c int) {
		isWritten(t, []int{c}, written(c))
		isRead(t, written(c), []int{c})
	})
}

// 5.1, 5.2, 5.5: characters of all lengths beside one another.
func TestCharactersInRows(t *testing.T) {
	for _, a := range edges {
		for _, b := range edges {
			for _, c := range edges {
				list, s := []int{a, b, c}, written(a)+written(b)+written(c)
				isWritten(t, list, s)
				isRead(t, s, list)
			}
		}
	}
	all, s := []int(nil), strings.Builder{}
	eachCharacter(func(c int) {
		all = append(all, c)
		s.WriteString(written(c))
	})
	if b, e := utf.Encode(all); e != api.OK || b != s.String() {
		t.Errorf("all characters are written otherwise, error %d", e)
	}
	if list, e := utf.Decode(s.String()); e != api.OK || !slices.Equal(list, all) {
		t.Errorf("all characters are read otherwise, error %d", e)
	}
}

// 5.1: a number that is no character is refused, wherever it stands, and nothing is written then.
func TestEncodeRefuses(t *testing.T) {
	refused := func(list ...int) {
		t.Helper()
		if s, e := utf.Encode(list); e != api.ErrInput || s != "" {
			t.Errorf("Encode(%x) = % x, error %d; want error %d", list, s, e, api.ErrInput)
		}
	}
	for _, c := range noCharacters {
		refused(c)
		refused(c, 'a')
		refused('a', c)
		refused('a', 0x20ac, c, 0x10ffff)
		refused(c, c)
	}
	for c := 0xd800; c <= 0xdfff; c++ {
		refused(c)
	}
	refused(0xd83e, 0xdd8a)
}

// 5.2: the chapter's examples, and wrong bytes of each kind.
func TestDecodeRefuses(t *testing.T) {
	for _, s := range []string{
		"\xc0\x80", "\xed\xa0\x80", "\xf4\x90\x80\x80", "\xc3",
		// These end too early, or have a beginning where more of them should be.
		"\xe2", "\xe2\x82", "\xf0", "\xf0\x9f", "\xf0\x9f\xa6", "\xc3\xc3\xa9", "\xe2\x82\xe2\x82\xac", "\xf0\x9f\xa6f",
		// These begin none.
		"\x80", "\xbf", "\xa9\xc3", "\xc0", "\xc1", "\xf5\x80\x80\x80", "\xf7\xbf\xbf\xbf", "\xf8\x88\x80\x80\x80",
		"\xfc\x84\x80\x80\x80\x80", "\xfe", "\xff", "\xff\xfe", "\xfe\xff",
		// These are longer than their one form.
		"\xc0\xaf", "\xc1\xbf", "\xe0\x80\x80", "\xe0\x82\x80", "\xe0\x9f\xbf", "\xf0\x80\x80\x80", "\xf0\x8f\xbf\xbf",
		// These are half pairs, and whole ones.
		"\xed\xad\xbf", "\xed\xae\x80", "\xed\xaf\xbf", "\xed\xb0\x80", "\xed\xbf\xbf", "\xed\xa0\xbe\xed\xb6\x8a",
		// These are past the last one.
		"\xf4\x90\x80\x81", "\xf4\xbf\xbf\xbf", "\xf5\xbf\xbf\xbf",
	} {
		isNoTextAnywhere(t, s)
	}
}

// 5.2: no character but in its one form: not in more bytes, and not in fewer.
func TestOneForm(t *testing.T) {
	eachCharacter(func(c int) {
		s := written(c)
		for size := len(s) + 1; size <= 6; size++ {
			isNoText(t, writtenIn(size, c))
		}
		for size := 1; size < len(s); size++ {
			isNoText(t, s[:size])
			isNoText(t, s[size:])
		}
	})
	for _, c := range edges {
		s := written(c)
		for size := len(s) + 1; size <= 6; size++ {
			isNoTextAnywhere(t, writtenIn(size, c))
		}
		for size := 1; size < len(s); size++ {
			isNoTextAnywhere(t, s[:size])
			isNoTextAnywhere(t, s[size:])
		}
	}
}

// 5.2: numbers that are no characters, in the bytes that they would have.
func TestNoCharactersWritten(t *testing.T) {
	for c := 0xd800; c <= 0xdfff; c++ {
		isNoTextAnywhere(t, written(c))
	}
	for c := 0x110000; c <= 0x1fffff; c++ {
		isNoText(t, written(c))
	}
}

// 5.2, 5.5: all rows of up to two bytes, and rows of four from bytes at the ends of what may stand at a place: each is
// read as what is found by trying, or refused.
func TestDecodeOfAnyBytes(t *testing.T) {
	check := func(s string) {
		if want, ok := readByTrying(s); ok {
			isRead(t, s, want)
			isWritten(t, want, s)
		} else {
			isNoText(t, s)
		}
	}
	for a := range 256 {
		check(string([]byte{byte(a)}))
		for b := range 256 {
			check(string([]byte{byte(a), byte(b)}))
		}
	}
	const ends = "\x00a\x7f\x80\x81\x8f\x90\x9f\xa0\xbf\xc0\xc1\xc2\xdf\xe0\xe1\xec\xed\xee\xef\xf0\xf1\xf3\xf4\xf5\xf7\xf8\xff"
	for a := range len(ends) {
		for b := range len(ends) {
			for c := range len(ends) {
				check(string([]byte{ends[a], ends[b], ends[c]}))
				for d := range len(ends) {
					check(string([]byte{ends[a], ends[b], ends[c], ends[d]}))
				}
			}
		}
	}
}

// 5.2: one wrong byte among very many right ones is seen, wherever it stands.
func TestOneWrongByte(t *testing.T) {
	right := strings.Repeat("a\u00e9\u4e2d\U0001f98a", 20)
	for at := range len(right) {
		wrong := []byte(right)
		wrong[at] = 0xff
		isNoTextAnywhere(t, string(wrong))
	}
}

// 5.3: letters: the ends of each range, what is left out within them, and what stands beside.
func TestLetter(t *testing.T) {
	for _, c := range []int{
		'a', 'm', 'z', 'A', 'M', 'Z', '0', '5', '9', 0xc0, 0xd6, 0xd8, 0xdf, 0xf6, 0xf8, 0xff, 0x100, 0x24f,
		0x370, 0x378, 0x37d, 0x37f, 0x3a2, 0x3c2, 0x481, 0x483, 0x487, 0x52f, 0x4e00, 0x4e2d, 0x9fff,
	} {
		if !utf.Letter(c) {
			t.Errorf("%x is no letter", c)
		}
	}
	for _, c := range []int{
		0, '\n', ' ', '-', '_', '\'', '*', '?', 'a' - 1, 'z' + 1, 'A' - 1, 'Z' + 1, '0' - 1, '9' + 1, 0x80, 0xaa, 0xb5, 0xbf,
		0xd7, 0xf7, 0x250, 0x36f, 0x37e, 0x482, 0x530, 0x5d0, 0x4dff, 0x3042, 0xa000, 0xac00, 0xff21, 0x10400, 0x20000,
	} {
		if utf.Letter(c) {
			t.Errorf("%x is a letter", c)
		}
	}
	eachNumber(func(c int) {
		if utf.Letter(c) != has(letters, c) {
			t.Errorf("Letter(%x) = %v", c, utf.Letter(c))
		}
	})
}

// 5.4: folded characters: the chapter's examples, the ends of each range, what is left out within them, and what stands
// beside.
func TestFold(t *testing.T) {
	for _, known := range []struct{ c, want int }{
		{0xc9, 0xe9}, {0x3a3, 0x3c3}, {0x3c2, 0x3c3}, {0x401, 0x451}, {0xd7, 0xd7},
		{'A', 'a'}, {'Z', 'z'}, {'A' - 1, 'A' - 1}, {'Z' + 1, 'Z' + 1}, {'a', 'a'}, {'z', 'z'}, {'0', '0'}, {' ', ' '},
		{0xbf, 0xbf}, {0xc0, 0xe0}, {0xd6, 0xf6}, {0xd8, 0xf8}, {0xde, 0xfe}, {0xdf, 0xdf}, {0xf7, 0xf7}, {0xe0, 0xe0},
		{0x100, 0x100}, {0x178, 0x178}, {0x386, 0x386},
		{0x390, 0x390}, {0x391, 0x3b1}, {0x3a1, 0x3c1}, {0x3a2, 0x3a2}, {0x3a9, 0x3c9}, {0x3aa, 0x3aa}, {0x3b1, 0x3b1},
		{0x3c1, 0x3c1}, {0x3c3, 0x3c3}, {0x3ff, 0x3ff},
		{0x400, 0x450}, {0x40f, 0x45f}, {0x410, 0x430}, {0x42f, 0x44f}, {0x430, 0x430}, {0x450, 0x450}, {0x45f, 0x45f},
		{0x460, 0x460}, {0x531, 0x531}, {0x10400, 0x10400}, {0xd800, 0xd800}, {-1, -1}, {-'A', -'A'},
		{0x110000, 0x110000}, {1<<32 + 'A', 1<<32 + 'A'}, {math.MinInt, math.MinInt}, {math.MaxInt, math.MaxInt},
	} {
		if got := utf.Fold(known.c); got != known.want {
			t.Errorf("Fold(%x) = %x, want %x", known.c, got, known.want)
		}
	}
	eachNumber(func(c int) {
		want := c
		for _, f := range folds {
			if has([]span{f.span}, c) {
				want = c + f.by
			}
		}
		if got := utf.Fold(c); got != want {
			t.Errorf("Fold(%x) = %x, want %x", c, got, want)
		}
	})
}

// 5.5: folding twice is folding once; what stands in words does so folded.
func TestFoldHolds(t *testing.T) {
	eachNumber(func(c int) {
		f := utf.Fold(c)
		if utf.Fold(f) != f {
			t.Errorf("%x is folded to %x, and that to %x", c, f, utf.Fold(f))
		}
		if utf.Letter(c) && !utf.Letter(f) {
			t.Errorf("%x stands in words, its fold %x doesn't", c, f)
		}
	})
}

// 5.5: texts stand in the order of their characters: each character behind the one ahead of it, and rows of them.
func TestOrder(t *testing.T) {
	encoded := func(list []int) string {
		s, e := utf.Encode(list)
		if e != api.OK {
			t.Fatalf("Encode(%x): error %d", list, e)
		}
		return s
	}
	last := ""
	eachCharacter(func(c int) {
		s := encoded([]int{c})
		if s <= last {
			t.Errorf("% x of %x doesn't stand behind % x", s, c, last)
		}
		last = s
	})
	rows := [][]int{nil}
	for _, a := range edges {
		rows = append(rows, []int{a})
		for _, b := range edges {
			rows = append(rows, []int{a, b})
		}
	}
	for _, one := range rows {
		for _, other := range rows {
			if strings.Compare(encoded(one), encoded(other)) != slices.Compare(one, other) {
				t.Errorf("%x and %x stand otherwise than their bytes", one, other)
			}
		}
	}
}

// Rule 4: the list that is handed in isn't changed, its spare room included, nor kept.
func TestEncodeLeavesItsList(t *testing.T) {
	whole := []int{'a', 0x20ac, 0x1f98a, 7, -7, 0xd800}
	before := slices.Clone(whole)
	s, e := utf.Encode(whole[:3])
	if e != api.OK || !slices.Equal(whole, before) {
		t.Errorf("error %d, and the list is %x, was %x", e, whole, before)
	}
	if _, e := utf.Encode(whole[:6]); e != api.ErrInput || !slices.Equal(whole, before) {
		t.Errorf("error %d, and the list is %x, was %x", e, whole, before)
	}
	whole[0], whole[1], whole[2] = 'x', 'y', 'z'
	if want := "a\u20ac\U0001f98a"; s != want {
		t.Errorf("the text is %q, was %q", s, want)
	}
}

// Rule 4: no two lists that are handed out share any memory, their spare room included.
func TestDecodeHandsOutNewLists(t *testing.T) {
	for _, s := range []string{"", "a", "fox", "a\u20ac\U0001f98a", strings.Repeat("\u00e9", 100)} {
		want, _ := readByTrying(s)
		one, _ := utf.Decode(s)
		other, _ := utf.Decode(s)
		for i := range one[:cap(one)] {
			one[:cap(one)][i] = -1
		}
		if !slices.Equal(other, want) {
			t.Errorf("Decode(%q) is %x behind a change of another answer, want %x", s, other, want)
		}
		isRead(t, s, want)
	}
}
