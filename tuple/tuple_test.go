package tuple_test

import (
	"cmp"
	"math"
	"slices"
	"strings"
	"testing"

	"gloss/api"
	"gloss/tuple"
)

// forms are numbers and their bytes: the edges of each length, rising.
var forms = []struct {
	n int
	s string
}{
	{math.MinInt, "\x08\x80\x00\x00\x00\x00\x00\x00\x70"},
	{math.MinInt + 1, "\x08\x80\x00\x00\x00\x00\x00\x00\x71"},
	{-113 - 1<<56, "\x08\xfe\xff\xff\xff\xff\xff\xff\xff"},
	{-112 - 1<<56, "\x09\x00\x00\x00\x00\x00\x00\x00"},
	{-113 - 1<<48, "\x09\xfe\xff\xff\xff\xff\xff\xff"},
	{-112 - 1<<48, "\x0a\x00\x00\x00\x00\x00\x00"},
	{-113 - 1<<40, "\x0a\xfe\xff\xff\xff\xff\xff"},
	{-112 - 1<<40, "\x0b\x00\x00\x00\x00\x00"},
	{-113 - 1<<32, "\x0b\xfe\xff\xff\xff\xff"},
	{-112 - 1<<32, "\x0c\x00\x00\x00\x00"},
	{-113 - 1<<24, "\x0c\xfe\xff\xff\xff"},
	{-112 - 1<<24, "\x0d\x00\x00\x00"},
	{-113 - 1<<16, "\x0d\xfe\xff\xff"},
	{-112 - 1<<16, "\x0e\x00\x00"},
	{-370, "\x0e\xfe\xfe"},
	{-369, "\x0e\xfe\xff"},
	{-368, "\x0f\x00"},
	{-114, "\x0f\xfe"},
	{-113, "\x0f\xff"},
	{-112, "\x10"},
	{-111, "\x11"},
	{-1, "\x7f"},
	{0, "\x80"},
	{1, "\x81"},
	{110, "\xee"},
	{111, "\xef"},
	{112, "\xf0\x00"},
	{113, "\xf0\x01"},
	{367, "\xf0\xff"},
	{368, "\xf1\x01\x00"},
	{369, "\xf1\x01\x01"},
	{111 + 1<<16, "\xf1\xff\xff"},
	{112 + 1<<16, "\xf2\x01\x00\x00"},
	{111 + 1<<24, "\xf2\xff\xff\xff"},
	{112 + 1<<24, "\xf3\x01\x00\x00\x00"},
	{111 + 1<<32, "\xf3\xff\xff\xff\xff"},
	{112 + 1<<32, "\xf4\x01\x00\x00\x00\x00"},
	{111 + 1<<40, "\xf4\xff\xff\xff\xff\xff"},
	{112 + 1<<40, "\xf5\x01\x00\x00\x00\x00\x00"},
	{111 + 1<<48, "\xf5\xff\xff\xff\xff\xff\xff"},
	{112 + 1<<48, "\xf6\x01\x00\x00\x00\x00\x00\x00"},
	{111 + 1<<56, "\xf6\xff\xff\xff\xff\xff\xff\xff"},
	{112 + 1<<56, "\xf7\x01\x00\x00\x00\x00\x00\x00\x00"},
	{math.MaxInt - 1, "\xf7\x7f\xff\xff\xff\xff\xff\xff\x8e"},
	{math.MaxInt, "\xf7\x7f\xff\xff\xff\xff\xff\xff\x8f"},
}

// allBytes are the bytes that the rows of shortRows are made of: those that mean something, and their neighbours.
const allBytes = "\x00\x01\x02\x0e\x0f\x10\x7f\x80\x81\x82\x83\xef\xf0\xf1\xf7\xf8\xfe\xff"

// shortRows answers all rows of at most so many of some bytes.
func shortRows(of string, most int) []string {
	rows := []string{""}
	for from := 0; most > 0; most-- {
		last := rows[from:]
		from = len(rows)
		for _, row := range last {
			for i := range len(of) {
				rows = append(rows, row+of[i:i+1])
			}
		}
	}
	return rows
}

// reads are the four calls that go over something, each answering in text what it read, and what Nums, Text or Block writes for that.
func reads() map[string]func(c *tuple.Cursor) (got, written string, zero bool, e api.Errno) {
	number := func(n int, e api.Errno) (string, string, bool, api.Errno) {
		return tuple.Nums(n), tuple.Nums(n), n == 0, e
	}
	return map[string]func(c *tuple.Cursor) (string, string, bool, api.Errno){
		"Num":   func(c *tuple.Cursor) (string, string, bool, api.Errno) { return number(c.Num()) },
		"Count": func(c *tuple.Cursor) (string, string, bool, api.Errno) { return number(c.Count()) },
		"Text": func(c *tuple.Cursor) (string, string, bool, api.Errno) {
			s, e := c.Text()
			return s, tuple.Text(s), s == "", e
		},
		"Block": func(c *tuple.Cursor) (string, string, bool, api.Errno) {
			s, e := c.Block()
			return s, tuple.Block(s), s == "", e
		},
	}
}

// 1.1: the numbers, one behind the other.
func TestNums(t *testing.T) {
	var all []int
	bytes := ""
	for _, f := range forms {
		if s := tuple.Nums(f.n); s != f.s {
			t.Errorf("Nums(%d) = % x, want % x", f.n, s, f.s)
		}
		all, bytes = append(all, f.n), bytes+f.s
	}
	for n := -112; n <= 111; n++ {
		if s := tuple.Nums(n); s != string([]byte{byte(128 + n)}) {
			t.Errorf("Nums(%d) = % x", n, s)
		}
	}
	if s := tuple.Nums(all...); s != bytes {
		t.Errorf("Nums of all = % x, want % x", s, bytes)
	}
	if tuple.Nums() != "" || tuple.Nums([]int{}...) != "" || tuple.Nums(1, -1) != "\x81\x7f" {
		t.Error("Nums of none, or of 1 and -1")
	}
}

// Rule 4: the list that is handed in isn't changed, its spare room included.
func TestNumsLeavesTheList(t *testing.T) {
	list := []int{-400, 5, 400, 77, 78}
	tuple.Nums(list[:3]...)
	if !slices.Equal(list, []int{-400, 5, 400, 77, 78}) {
		t.Errorf("Nums made %d of its list", list)
	}
}

// 1.1: texts.
func TestText(t *testing.T) {
	for s, want := range map[string]string{
		"":              "\x00\x01",
		"a":             "a\x00\x01",
		"\x00":          "\x00\xff\x00\x01",
		"\x00\x00":      "\x00\xff\x00\xff\x00\x01",
		"a\x00b\x00":    "a\x00\xffb\x00\xff\x00\x01",
		"\x00\x01":      "\x00\xff\x01\x00\x01",
		"\x00\xff":      "\x00\xff\xff\x00\x01",
		"\x01\xff\x80é": "\x01\xff\x80é\x00\x01",
	} {
		if got := tuple.Text(s); got != want {
			t.Errorf("Text(% x) = % x, want % x", s, got, want)
		}
	}
}

// 1.1: blocks.
func TestBlock(t *testing.T) {
	for s, want := range map[string]string{
		"":                          "\x80",
		"ab":                        "\x82ab",
		"\x00\x01\xff":              "\x83\x00\x01\xff",
		strings.Repeat("x", 111):    "\xef" + strings.Repeat("x", 111),
		strings.Repeat("x", 112):    "\xf0\x00" + strings.Repeat("x", 112),
		strings.Repeat("\x00", 368): "\xf1\x01\x00" + strings.Repeat("\x00", 368),
	} {
		if got := tuple.Block(s); got != want {
			t.Errorf("Block(% x) = % x, want % x", s, got, want)
		}
	}
}

// 1.2: a cursor begins at the beginning, each call leaves it behind what it went over, and an error where it was.
func TestCursorMoves(t *testing.T) {
	c := tuple.At("\x82a\x00\x01\x05")
	if c.Rest() != "\x82a\x00\x01\x05" || c.End() != api.ErrTail {
		t.Errorf("at the beginning: % x, %d", c.Rest(), c.End())
	}
	if n, e := c.Count(); n != 2 || e != api.OK || c.Rest() != "a\x00\x01\x05" {
		t.Errorf("Count = %d, %d, rest % x", n, e, c.Rest())
	}
	if s, e := c.Text(); s != "a" || e != api.OK || c.Rest() != "\x05" {
		t.Errorf("Text = %q, %d, rest % x", s, e, c.Rest())
	}
	if n, e := c.Num(); n != 0 || e != api.ErrForm || c.Rest() != "\x05" || c.End() != api.ErrTail {
		t.Errorf("Num = %d, %d, rest % x, end %d", n, e, c.Rest(), c.End())
	}
	c = tuple.At("\x82ab\x10")
	if s, e := c.Block(); s != "ab" || e != api.OK || c.Rest() != "\x10" {
		t.Errorf("Block = %q, %d, rest % x", s, e, c.Rest())
	}
	if n, e := c.Num(); n != -112 || e != api.OK || c.Rest() != "" || c.End() != api.OK {
		t.Errorf("Num = %d, %d, rest % x, end %d", n, e, c.Rest(), c.End())
	}
	for name, read := range reads() {
		if _, _, zero, e := read(c); !zero || e != api.ErrShort || c.End() != api.OK {
			t.Errorf("%s at the end: %d", name, e)
		}
	}
	if c = tuple.At(""); c.Rest() != "" || c.End() != api.OK {
		t.Errorf("of nothing: % x, %d", c.Rest(), c.End())
	}
}

// 1.2: two cursors over the same bytes have nothing to do with one another.
func TestCursorsApart(t *testing.T) {
	a, b := tuple.At("\x81\x82"), tuple.At("\x81\x82")
	a.Num()
	if a.Rest() != "\x82" || b.Rest() != "\x81\x82" {
		t.Errorf("% x, % x", a.Rest(), b.Rest())
	}
}

// 1.3: numbers that are there.
func TestNum(t *testing.T) {
	for _, f := range forms {
		for _, behind := range []string{"", "\x00", "\xff", "xyz"} {
			c := tuple.At(f.s + behind)
			if n, e := c.Num(); n != f.n || e != api.OK || c.Rest() != behind {
				t.Errorf("Num of % x = %d, %d, rest % x", f.s, n, e, c.Rest())
			}
		}
	}
}

// 1.3: numbers that aren't there, and what is said first where several things are wrong.
func TestNumRefuses(t *testing.T) {
	for s, want := range map[string]api.Errno{
		"":     api.ErrShort,
		"\x00": api.ErrForm,
		"\x07": api.ErrForm,
		"\x07\xff\xff\xff\xff\xff\xff\xff\xff\xff": api.ErrForm,
		"\xf8": api.ErrForm,
		"\xff": api.ErrForm,
		"\xf8\x01\x00\x00\x00\x00\x00\x00\x00\x00": api.ErrForm,
		"\xf0":                                 api.ErrShort,
		"\x0f":                                 api.ErrShort,
		"\xf1\x01":                             api.ErrShort,
		"\x0e\xfe":                             api.ErrShort,
		"\xf1\x00":                             api.ErrShort,
		"\x0e\xff":                             api.ErrShort,
		"\xf7\xff\xff\xff\xff\xff\xff\xff":     api.ErrShort,
		"\x08\x00\x00\x00\x00\x00\x00\x00":     api.ErrShort,
		"\xf1\x00\x05":                         api.ErrForm,
		"\xf1\x00\xff":                         api.ErrForm,
		"\xf1\x00\x00":                         api.ErrForm,
		"\x0e\xff\x00":                         api.ErrForm,
		"\x0e\xff\xff":                         api.ErrForm,
		"\xf2\x00\xff\xff":                     api.ErrForm,
		"\x0d\xff\x00\x00":                     api.ErrForm,
		"\xf7\x00\xff\xff\xff\xff\xff\xff\xff": api.ErrForm,
		"\x08\xff\x00\x00\x00\x00\x00\x00\x00": api.ErrForm,
		"\xf7\x7f\xff\xff\xff\xff\xff\xff\x90": api.ErrForm,
		"\x08\x80\x00\x00\x00\x00\x00\x00\x6f": api.ErrForm,
		"\xf7\x80\x00\x00\x00\x00\x00\x00\x00": api.ErrForm,
		"\xf7\xff\xff\xff\xff\xff\xff\xff\xff": api.ErrForm,
		"\x08\x00\x00\x00\x00\x00\x00\x00\x00": api.ErrForm,
	} {
		c := tuple.At(s)
		if n, e := c.Num(); n != 0 || e != want || c.Rest() != s {
			t.Errorf("Num of % x = %d, %d, want %d; rest % x", s, n, e, want, c.Rest())
		}
		if n, e := c.Count(); n != 0 || e != want || c.Rest() != s {
			t.Errorf("Count of % x = %d, %d, want %d; rest % x", s, n, e, want, c.Rest())
		}
	}
}

// 1.3: a count is a number from 0 on.
func TestCount(t *testing.T) {
	for _, f := range forms {
		n, left, want := f.n, "x", api.OK
		if f.n < 0 {
			n, left, want = 0, f.s+"x", api.ErrForm
		}
		c := tuple.At(f.s + "x")
		if got, e := c.Count(); got != n || e != want || c.Rest() != left {
			t.Errorf("Count of % x = %d, %d, rest % x", f.s, got, e, c.Rest())
		}
	}
}

// 1.4: texts.
func TestCursorText(t *testing.T) {
	for _, s := range []string{"", "a", "\x00", "\x01", "\xff", "a\x00b\x00", "\x00\x01", "\x00\xff", "\x00\x00\x01\x00\xff\xff", strings.Repeat("\x00y", 5000)} {
		c := tuple.At(tuple.Text(s) + "\x00\x02")
		if got, e := c.Text(); got != s || e != api.OK || c.Rest() != "\x00\x02" {
			t.Errorf("Text of % x = % x, %d, rest % x", tuple.Text(s), got, e, c.Rest())
		}
	}
	for s, want := range map[string]api.Errno{
		"":                        api.ErrShort,
		"a":                       api.ErrShort,
		"a\x01":                   api.ErrShort,
		"\x00":                    api.ErrShort,
		"a\x00":                   api.ErrShort,
		"a\x00\xff":               api.ErrShort,
		"a\x00\xff\x00":           api.ErrShort,
		"a\x00\xff\x01":           api.ErrShort,
		"a\x00\x02":               api.ErrForm,
		"\x00\x00":                api.ErrForm,
		"\x00\x00\x01":            api.ErrForm,
		"\x00\xfe\x00\x01":        api.ErrForm,
		"\x00\xff\x00\x80":        api.ErrForm,
		"ab\x00c\x00\x01\x00\x01": api.ErrForm,
	} {
		c := tuple.At(s)
		if got, e := c.Text(); got != "" || e != want || c.Rest() != s {
			t.Errorf("Text of % x = % x, %d, want %d; rest % x", s, got, e, want, c.Rest())
		}
	}
}

// 1.4: blocks.
func TestCursorBlock(t *testing.T) {
	for _, s := range []string{"", "ab", "\x00\x01\xff", strings.Repeat("z", 111), strings.Repeat("z", 112), strings.Repeat("\x00", 70000)} {
		c := tuple.At(tuple.Block(s) + "q")
		if got, e := c.Block(); got != s || e != api.OK || c.Rest() != "q" {
			t.Errorf("Block of %d bytes = %d bytes, %d, rest % x", len(s), len(got), e, c.Rest())
		}
	}
	for s, want := range map[string]api.Errno{
		"":                                       api.ErrShort,
		"\xf0":                                   api.ErrShort,
		"\x81":                                   api.ErrShort,
		"\x83ab":                                 api.ErrShort,
		"\xf0\x00" + strings.Repeat("a", 111):    api.ErrShort,
		"\xf7\x7f\xff\xff\xff\xff\xff\xff\x8fab": api.ErrShort,
		"\x7fab":                                 api.ErrForm,
		"\x08\x80\x00\x00\x00\x00\x00\x00\x70":   api.ErrForm,
		"\x07ab":                                 api.ErrForm,
		"\xf8ab":                                 api.ErrForm,
		"\xf1\x00\x02ab":                         api.ErrForm,
		"\xf7\xff\xff\xff\xff\xff\xff\xff\xff":   api.ErrForm,
	} {
		c := tuple.At(s)
		if got, e := c.Block(); got != "" || e != want || c.Rest() != s {
			t.Errorf("Block of % x = % x, %d, want %d; rest % x", s, got, e, want, c.Rest())
		}
	}
}

// 1.5: a row of all kinds is gone over by the calls of its kinds.
func TestRowIsReadBack(t *testing.T) {
	texts := []string{"", "a", "\x00", "\x00\x01", "\xff\x00", "word"}
	row := ""
	for _, f := range forms {
		for _, s := range texts {
			row += tuple.Text(s) + tuple.Nums(f.n, len(s)) + tuple.Block(s)
		}
	}
	c := tuple.At(row)
	for _, f := range forms {
		for _, s := range texts {
			text, e1 := c.Text()
			n, e2 := c.Num()
			size, e3 := c.Count()
			block, e4 := c.Block()
			if text != s || n != f.n || size != len(s) || block != s || e1 != api.OK || e2 != api.OK || e3 != api.OK || e4 != api.OK {
				t.Fatalf("%q, %d: read as %q, %d, %d, %q", s, f.n, text, n, size, block)
			}
		}
	}
	if c.End() != api.OK {
		t.Errorf("left: % x", c.Rest())
	}
}

// 1.5: there is one form of each thing: whatever is gone over is just what would be written.
func TestOneForm(t *testing.T) {
	rows := shortRows(allBytes, 4)
	for name, read := range reads() {
		for _, s := range rows {
			c := tuple.At(s)
			_, written, zero, e := read(c)
			if e == api.OK && written+c.Rest() != s {
				t.Errorf("%s of % x goes over % x", name, s, written)
			}
			if e != api.OK && (!zero || c.Rest() != s) {
				t.Errorf("%s of % x: %d, and has moved or told something", name, s, e)
			}
		}
	}
}

// 1.6: the bytes of numbers stand as the numbers do, whatever stands behind them.
func TestOrderOfNumbers(t *testing.T) {
	var list []int
	for n := -70000; n <= 70000; n += 7 {
		list = append(list, n)
	}
	for _, f := range forms {
		list = append(list, f.n)
	}
	slices.Sort(list)
	list = slices.Compact(list)
	for i, n := range list[1:] {
		if tuple.Nums(list[i])+"\xff\xff" >= tuple.Nums(n) {
			t.Errorf("%d stands behind %d", list[i], n)
		}
	}
	for _, a := range forms {
		for _, b := range forms {
			if a.n < b.n && (tuple.Nums(a.n)+"\xff" >= tuple.Nums(b.n) || tuple.Nums(a.n) >= tuple.Nums(b.n)+"\x00") {
				t.Errorf("%d stands behind %d", a.n, b.n)
			}
		}
	}
}

// 1.6: the bytes of texts stand as the texts do, whatever stands behind them.
func TestOrderOfTexts(t *testing.T) {
	list := shortRows("\x00\x01\x02a\xfe\xff", 3)
	for _, a := range list {
		for _, b := range list {
			for _, behind := range []string{"", "\x00", "\xff\xff"} {
				if a < b && (tuple.Text(a)+behind >= tuple.Text(b) || tuple.Text(a) >= tuple.Text(b)+behind) {
					t.Errorf("% x stands behind % x", a, b)
				}
			}
		}
	}
}

// pair is a row of a text and a number, or of a text alone.
type pair struct {
	text string
	n    int
	both bool
}

// bytes answers the bytes of a row.
func (p pair) bytes() string {
	if !p.both {
		return tuple.Text(p.text)
	}
	return tuple.Text(p.text) + tuple.Nums(p.n)
}

// comparePairs tells which of two rows stands first: the first items that are unlike decide, then the shorter one.
func comparePairs(a, b pair) int {
	if c := cmp.Compare(a.text, b.text); c != 0 || !a.both && !b.both {
		return c
	}
	switch {
	case !a.both:
		return -1
	case !b.both:
		return 1
	}
	return cmp.Compare(a.n, b.n)
}

// 1.6: the bytes of rows stand as the rows do.
func TestOrderOfRows(t *testing.T) {
	var rows []pair
	for _, s := range shortRows("\x00\x01b\xff", 2) {
		rows = append(rows, pair{text: s})
		for _, n := range []int{math.MinInt, -369, -113, -112, 0, 111, 112, 368, math.MaxInt} {
			rows = append(rows, pair{s, n, true})
		}
	}
	for _, a := range rows {
		for _, b := range rows {
			if cmp.Compare(a.bytes(), b.bytes()) != comparePairs(a, b) {
				t.Fatalf("%v and %v don't stand as their bytes", a, b)
			}
		}
	}
}

// 1.6: rows of numbers alone, of which one may be another one's beginning.
func TestOrderOfRowsOfNumbers(t *testing.T) {
	rows := [][]int{nil}
	for i := 0; i < len(rows) && len(rows[i]) < 3; i++ {
		for _, n := range []int{math.MinInt, -400, -1, 0, 300, math.MaxInt} {
			rows = append(rows, append(slices.Clone(rows[i]), n))
		}
	}
	for _, a := range rows {
		for _, b := range rows {
			if cmp.Compare(tuple.Nums(a...), tuple.Nums(b...)) != slices.Compare(a, b) {
				t.Fatalf("%d and %d don't stand as their bytes", a, b)
			}
		}
	}
}

// 1.7: a nil cursor.
func TestNilCursor(t *testing.T) {
	var none *tuple.Cursor
	for name, read := range reads() {
		if _, _, zero, e := read(none); !zero || e != api.ErrInput {
			t.Errorf("%s of a nil cursor: %d", name, e)
		}
	}
	if none.Rest() != "" || none.End() != api.ErrInput {
		t.Errorf("a nil cursor: rest % x, end %d", none.Rest(), none.End())
	}
}
