package spans_test

import (
	"math"
	"math/rand/v2"
	"reflect"
	"slices"
	"testing"

	"gloss/api"
	"gloss/dfa"
	"gloss/spans"
)

// row answers the row of ranges from each first number to the one behind it.
func row(ends ...int) []api.Range {
	var list []api.Range
	for i := 0; i < len(ends); i += 2 {
		list = append(list, api.Range{Lo: ends[i], Hi: ends[i+1]})
	}
	return list
}

// rowsHold tells of rows that aren't those of the characters from lo to hi.
func rowsHold(t *testing.T, lo, hi int) {
	t.Helper()
	rows := spans.Rows(lo, hi)
	if why := wrong(rows, lo, hi); why != "" {
		t.Errorf("Rows(%x, %x) = %x: %s", lo, hi, rows, why)
	}
}

// 9.1: the chapter's examples, and ranges that one row holds, whichever way they are cut.
func TestExamples(t *testing.T) {
	for _, known := range []struct {
		lo, hi int
		want   [][]api.Range
	}{
		{'a', 'z', [][]api.Range{row('a', 'z')}},
		{0, 0x7f, [][]api.Range{row(0, 0x7f)}},
		{0x80, 0x7ff, [][]api.Range{row(0xc2, 0xdf, 0x80, 0xbf)}},
		{0x800, 0x800, [][]api.Range{row(0xe0, 0xe0, 0xa0, 0xa0, 0x80, 0x80)}},
		{0x10ffff, 0x10ffff, [][]api.Range{row(0xf4, 0xf4, 0x8f, 0x8f, 0xbf, 0xbf, 0xbf, 0xbf)}},
		{0xd7ff, 0xdfff, [][]api.Range{row(0xed, 0xed, 0x9f, 0x9f, 0xbf, 0xbf)}},
		{0xd800, 0xe000, [][]api.Range{row(0xee, 0xee, 0x80, 0x80, 0x80, 0x80)}},
		{-5, 0, [][]api.Range{row(0, 0)}},
		{0x10ffff, 0x110005, [][]api.Range{row(0xf4, 0xf4, 0x8f, 0x8f, 0xbf, 0xbf, 0xbf, 0xbf)}},
	} {
		if rows := spans.Rows(known.lo, known.hi); !reflect.DeepEqual(rows, known.want) {
			t.Errorf("Rows(%x, %x) = %x, want %x", known.lo, known.hi, rows, known.want)
		}
	}
}

// 9.1: each character alone is one row, which holds its bytes alone.
func TestOneCharacter(t *testing.T) {
	eachCharacter(0, api.MaxRune, func(c int) {
		var want []api.Range
		for _, b := range []byte(written(c)) {
			want = append(want, api.Range{Lo: int(b), Hi: int(b)})
		}
		if rows := spans.Rows(c, c); len(rows) != 1 || !slices.Equal(rows[0], want) {
			t.Errorf("Rows(%x, %x) = %x, want %x", c, c, rows, want)
		}
	})
}

// 9.1: no characters, no rows: wrong ranges, and ranges of what is none.
func TestNoRows(t *testing.T) {
	none := func(lo, hi int) {
		t.Helper()
		if rows := spans.Rows(lo, hi); len(rows) != 0 {
			t.Errorf("Rows(%x, %x) = %x", lo, hi, rows)
		}
	}
	for c := 0xd800; c <= 0xdfff; c++ {
		none(c, c)
		none(0xd800, c)
		none(c, 0xdfff)
	}
	numbers := slices.Concat(edges, farNumbers)
	for _, lo := range numbers {
		for _, hi := range numbers {
			if hi < lo || hi < 0 || lo > api.MaxRune {
				none(lo, hi)
			}
		}
	}
}

// 9.1, 9.3: all ranges from one of the edges to another, those below 0 and above the last character among them.
func TestRangesBetweenEdges(t *testing.T) {
	numbers := slices.Concat(edges, farNumbers)
	for _, lo := range numbers {
		for _, hi := range numbers {
			rowsHold(t, lo, hi)
		}
	}
}

// 9.1, 9.3: all short ranges, and drawn ones, by numbers that are always the same.
func TestManyRanges(t *testing.T) {
	for c := -70; c < 0x110000; c += 13 {
		rowsHold(t, c, c+c%130)
	}
	for _, c := range edges {
		for lo := c - 70; lo < c+70; lo++ {
			rowsHold(t, lo, c)
			rowsHold(t, c, lo)
		}
	}
	r := rand.New(rand.NewPCG(9, 1))
	for range 100000 {
		// Each length of bytes is as likely as the others.
		rowsHold(t, r.IntN(0x110000)>>(5*r.IntN(4)), r.IntN(0x110000)>>(5*r.IntN(4)))
	}
}

// 9.1, 9.3: of some ranges, text by text: what rows hold are the characters of the range, each of them just once.
func TestEachTextThatIsHeld(t *testing.T) {
	for _, s := range []span{
		{0, api.MaxRune}, {0x81, 0x10fffe}, {0x7f, 0x80}, {0x7ff, 0x800}, {0xffff, 0x10000}, {0x3ff, 0x1003}, {0xd000, 0xe100},
		{0xd7fe, 0xe001}, {0xdabc, 0xf000}, {0x1234, 0xdabc}, {0xfffe, 0x10002}, {0x801, 0x12345}, {0x3fffe, 0x40001}, {-9, 9},
	} {
		times := map[string]int{}
		for _, row := range spans.Rows(s.first, s.last) {
			eachText(row, func(text string) { times[text]++ })
		}
		eachCharacter(s.first, s.last, func(c int) {
			if n := times[written(c)]; n != 1 {
				t.Errorf("%x to %x: %x is held %d times", s.first, s.last, c, n)
			}
			delete(times, written(c))
		})
		for text := range times {
			t.Errorf("%x to %x: % x is held too", s.first, s.last, text)
		}
	}
}

// 9.3: texts that are no characters are held by no row of any range.
func TestNoCharactersHeld(t *testing.T) {
	all := spans.Rows(math.MinInt, math.MaxInt)
	none := func(s string) {
		t.Helper()
		if n := timesHeld(all, s); n != 0 {
			t.Errorf("% x is held by %d rows", s, n)
		}
	}
	for _, s := range []string{
		"", "ab", "\x80", "\xbf", "\xc0\x80", "\xc1\xbf", "\xc3", "\xc3a", "\xe0\x80\x80", "\xe0\x9f\xbf", "\xe2\x82", "\xf0\x80\x80\x80",
		"\xf0\x8f\xbf\xbf", "\xf0\x9f\xa6", "\xf4\x90\x80\x80", "\xf5\x80\x80\x80", "\xf8\x88\x80\x80\x80", "\xff", "\u20ac\u20ac", "a\u0080",
	} {
		none(s)
	}
	for c := 0xd800; c <= 0xdfff; c++ {
		none(written(c))
	}
	for c := 0x110000; c <= 0x1fffff; c++ {
		none(written(c))
	}
}

// dirty writes into each list of an answer, spare room included.
func dirty[T any](list []T, to T) {
	list = list[:cap(list)]
	for i := range list {
		list[i] = to
	}
}

// Rule 4: rows share no memory with one another, nor with another answer, their spare room included.
func TestRowsAreNew(t *testing.T) {
	for _, s := range []span{{'a', 'a'}, {0, api.MaxRune}, {0x81, 0x10fffe}, {0xd000, 0xe100}, {0x20ac, 0x20ac}, {5, 4}} {
		rows := spans.Rows(s.first, s.last)
		for i := range rows {
			other := spans.Rows(s.first, s.last)
			dirty(rows[i], api.Range{Lo: -1, Hi: -1})
			rows[i] = append(rows[i], api.Range{Lo: -2, Hi: -2})
			for k := i + 1; k < len(rows); k++ {
				if !slices.Equal(rows[k], other[k]) {
					t.Errorf("%x to %x: row %d is %x behind a change of row %d, was %x", s.first, s.last, k, rows[k], i, other[k])
				}
			}
			if why := wrong(other, s.first, s.last); why != "" {
				t.Errorf("%x to %x: another answer is %x behind a change: %s", s.first, s.last, other, why)
			}
		}
		dirty(rows, nil)
		rowsHold(t, s.first, s.last)
	}
}

// looseOf answers loose states of many kinds, with arcs and Free, which Tight refuses some of.
func looseOf() [][]api.Loose {
	return [][]api.Loose{
		{{}},
		{{}, {Final: true}},
		{{Final: true, Arcs: []api.Arc{{Lo: 'a', Hi: 'z', To: 0}}, Free: []int{0}}},
		{
			{Arcs: []api.Arc{{Lo: 'a', Hi: 'b', To: 1}, {Lo: 0, Hi: 255, To: 2}}, Free: []int{2, 1}},
			{Final: true, Arcs: []api.Arc{{Lo: 0xc3, Hi: 0xc3, To: 2}}},
			{Free: []int{0, 1, 2}},
		},
		{{Arcs: []api.Arc{{Lo: 5, Hi: 4, To: -1}, {Lo: math.MinInt, Hi: math.MaxInt, To: math.MinInt}}, Free: []int{-1, math.MaxInt}}, {Final: true}},
		make([]api.Loose, 40),
	}
}

// copyOf answers loose states that share nothing with those given.
func copyOf(n []api.Loose) []api.Loose {
	out := make([]api.Loose, len(n))
	for i, s := range n {
		out[i] = api.Loose{Final: s.Final, Arcs: append([]api.Arc(nil), s.Arcs...), Free: append([]int(nil), s.Free...)}
	}
	return out
}

// alike tells whether two lists of loose states are.
func alike(a, b []api.Loose) bool {
	return slices.EqualFunc(a, b, func(x, y api.Loose) bool {
		return x.Final == y.Final && slices.Equal(x.Arcs, y.Arcs) && slices.Equal(x.Free, y.Free)
	})
}

// beginsWith answers the arcs that a state has more in an answer than it had; and whether the answer begins with the
// states that there were, but for these arcs.
func beginsWith(n, out []api.Loose, from int) ([]api.Arc, bool) {
	if len(out) < len(n) || from >= len(n) || len(out[from].Arcs) < len(n[from].Arcs) {
		return nil, false
	}
	begin, had := copyOf(out[:len(n)]), len(n[from].Arcs)
	begin[from].Arcs = begin[from].Arcs[:had]
	return out[from].Arcs[had:], alike(begin, n)
}

// rowsOf answers the rows by which arcs lead on, over new states alone, to a state; and whether the new states, which
// stand from one place on, lead nowhere else, and nothing leads to one of them twice.
func rowsOf(out []api.Loose, arcs []api.Arc, states, to int) ([][]api.Range, bool) {
	var rows [][]api.Range
	met, ok := make([]int, len(out)), true
	var follow func(arcs []api.Arc, ahead []api.Range)
	follow = func(arcs []api.Arc, ahead []api.Range) {
		for _, a := range arcs {
			row := append(slices.Clone(ahead), api.Range{Lo: a.Lo, Hi: a.Hi})
			switch {
			case a.To == to:
				rows = append(rows, row)
			case a.To < states || a.To >= len(out) || met[a.To] > 0:
				ok = false
			default:
				met[a.To]++
				follow(out[a.To].Arcs, row)
			}
		}
	}
	follow(arcs, nil)
	for i := states; i < len(out); i++ {
		ok = ok && met[i] == 1 && !out[i].Final && len(out[i].Free) == 0
	}
	return rows, ok
}

// leads tells of an answer of Lead that isn't as the chapter tells it, and answers it.
func leads(t *testing.T, n []api.Loose, from, to, lo, hi int) []api.Loose {
	t.Helper()
	before := copyOf(n)
	out := spans.Lead(n, from, to, lo, hi)
	if !alike(n, before) {
		t.Errorf("Lead(%v, %d, %d, %x, %x): what was handed in is %v", before, from, to, lo, hi, n)
	}
	arcs, ok := beginsWith(before, out, from)
	if !ok {
		t.Errorf("Lead(%v, %d, %d, %x, %x) = %v doesn't begin with what there was", before, from, to, lo, hi, out)
		return out
	}
	rows, ok := rowsOf(out, arcs, len(n), to)
	if !ok {
		t.Errorf("Lead(%v, %d, %d, %x, %x) = %v leads elsewhere too", before, from, to, lo, hi, out)
	}
	if why := wrong(rows, lo, hi); why != "" {
		t.Errorf("Lead(%v, %d, %d, %x, %x) = %v: %s", before, from, to, lo, hi, out, why)
	}
	return out
}

// 9.2: one character, byte by byte.
func TestLeadOfOneCharacter(t *testing.T) {
	n := []api.Loose{{Free: []int{1}}, {Final: true, Arcs: []api.Arc{{Lo: 1, Hi: 2, To: 0}}}}
	want := []api.Loose{
		{Free: []int{1}},
		{Final: true, Arcs: []api.Arc{{Lo: 1, Hi: 2, To: 0}, {Lo: 0xe2, Hi: 0xe2, To: 2}}},
		{Arcs: []api.Arc{{Lo: 0x82, Hi: 0x82, To: 3}}},
		{Arcs: []api.Arc{{Lo: 0xac, Hi: 0xac, To: 0}}},
	}
	if out := spans.Lead(n, 1, 0, 0x20ac, 0x20ac); !alike(out, want) {
		t.Errorf("%v, want %v", out, want)
	}
}

// 9.2: from each state to each, to itself too, by ranges of all kinds.
func TestLead(t *testing.T) {
	for _, n := range looseOf() {
		for _, from := range []int{0, len(n) / 2, len(n) - 1} {
			for _, to := range []int{0, len(n) / 2, len(n) - 1} {
				for _, s := range []span{
					{'a', 'a'}, {'a', 'z'}, {0xe9, 0xe9}, {0x7f, 0x80}, {0x7ff, 0x800}, {0xffff, 0x10000}, {0, api.MaxRune}, {0x81, 0x10fffe},
					{0xd7ff, 0xe000}, {0xdabc, 0xf000}, {-3, 3}, {0x10fff0, 0x110000}, {math.MinInt, math.MaxInt}, {0x10ffff, 0x10ffff},
				} {
					leads(t, n, from, to, s.first, s.last)
				}
			}
		}
	}
}

// 9.2: Lead of what Lead answered, on and on: arcs stand behind those that there are.
func TestLeadOnAndOn(t *testing.T) {
	n := looseOf()[3]
	r := rand.New(rand.NewPCG(9, 2))
	for range 50 {
		n = leads(t, n, r.IntN(len(n)), r.IntN(len(n)), edges[r.IntN(len(edges))], edges[r.IntN(len(edges))])
	}
	for _, c := range edges {
		n = leads(t, n, 1, 2, c, c)
	}
}

// 9.2: ranges without characters: the states are as they were.
func TestLeadByNothing(t *testing.T) {
	for _, n := range looseOf() {
		for _, s := range []span{
			{'b', 'a'}, {0xd800, 0xdfff}, {0xdabc, 0xdabc}, {-9, -1}, {math.MinInt, -1}, {0x110000, 0x120000}, {0x110000, math.MaxInt},
			{math.MaxInt, math.MinInt}, {1, 0}, {math.MaxInt, math.MaxInt}, {math.MinInt, math.MinInt},
		} {
			if out := leads(t, n, 0, len(n)-1, s.first, s.last); !alike(out, n) {
				t.Errorf("Lead(%v, %x, %x) = %v", n, s.first, s.last, out)
			}
		}
	}
}

// 9.2: from or to is no state, or both are: the answer is the states alone.
func TestLeadOfNoStates(t *testing.T) {
	for _, n := range append(looseOf(), nil, []api.Loose{}, make([]api.Loose, 3, 9)[:0]) {
		places := []int{-1, -2, math.MinInt, len(n), len(n) + 1, 1 << 32, math.MaxInt}
		alone := func(from, to int) {
			t.Helper()
			for _, s := range []span{{'a', 'z'}, {0, api.MaxRune}, {5, 4}} {
				before := copyOf(n)
				if out := spans.Lead(n, from, to, s.first, s.last); !alike(out, before) || !alike(n, before) {
					t.Errorf("Lead(%v, %d, %d, %x, %x) = %v", before, from, to, s.first, s.last, out)
				}
			}
		}
		for _, none := range places {
			alone(none, 0)
			alone(0, none)
			alone(none, len(n)-1)
			for _, other := range places {
				alone(none, other)
			}
		}
	}
}

// 9.2, 9.3: what is made tight of it takes the characters of the range, and no others, and no texts that are none.
func TestLeadMadeTight(t *testing.T) {
	for _, s := range []span{{0, api.MaxRune}, {'a', 'z'}, {0x7f, 0x80}, {0x7ff, 0x1000}, {0xd000, 0xe100}, {0xfffe, 0x10002}, {0x81, 0x10fffe}} {
		// From the second state on, which is led to by x, to the first one: so each character stands behind an x.
		n := leads(t, []api.Loose{{Final: true, Arcs: []api.Arc{{Lo: 'x', Hi: 'x', To: 1}}}, {}}, 1, 0, s.first, s.last)
		d, e := dfa.Tight(n, 100)
		if e != api.OK {
			t.Fatalf("%x to %x: error %d", s.first, s.last, e)
		}
		for _, c := range edges {
			in := isCharacter(c, s.first, s.last)
			if c >= 0 && (dfa.Accepts(d, "x"+written(c)) != in || dfa.Accepts(d, "x"+written(c)+"x"+written(c)) != in) {
				t.Errorf("%x to %x: %x is taken otherwise", s.first, s.last, c)
			}
		}
		for _, text := range []string{"x", "xx\x80", "x\xc3", "x\xed\xa0\x80", "x\xc1\xa1", "x\xf4\x90\x80\x80", "x\xff", "xaa", "a"} {
			if dfa.Accepts(d, text) {
				t.Errorf("%x to %x: % x is taken", s.first, s.last, text)
			}
		}
	}
}

// withRoom answers loose states whose lists have spare room, marked, and are pieces of one list.
func withRoom() []api.Loose {
	arcs := []api.Arc{{Lo: 'a', Hi: 'a', To: 1}, {Lo: 'b', Hi: 'b', To: 0}, {Lo: -7, Hi: -7, To: -7}, {Lo: -8, Hi: -8, To: -8}}
	free := []int{1, 0, -7, -8}
	n := []api.Loose{{Arcs: arcs[:1], Free: free[:1]}, {Final: true, Arcs: arcs[1:2], Free: free[1:2]}, {Arcs: arcs[:0], Free: free[:0]}, {}, {Final: true}}
	return n[:3]
}

// Rule 4: what is handed in isn't changed, its spare room included, whatever Lead does.
func TestLeadLeavesItsStates(t *testing.T) {
	for from := range 3 {
		for to := -1; to < 3; to++ {
			n, before := withRoom(), withRoom()
			spans.Lead(n, from, to, 0, api.MaxRune)
			same := reflect.DeepEqual(n[:cap(n)], before[:cap(before)])
			for i := range n {
				same = same && slices.Equal(n[i].Arcs[:cap(n[i].Arcs)], before[i].Arcs[:cap(before[i].Arcs)])
				same = same && slices.Equal(n[i].Free[:cap(n[i].Free)], before[i].Free[:cap(before[i].Free)])
			}
			if !same {
				t.Errorf("from %d to %d: what was handed in is changed: %v", from, to, n[:cap(n)])
			}
		}
	}
}

// Rule 4: what is handed in isn't kept, and an answer shares no memory with it, with another answer, nor among its own
// lists, their spare room included.
func TestLeadIsNew(t *testing.T) {
	for to := -1; to < 3; to++ {
		want := spans.Lead(withRoom(), 0, to, 0, api.MaxRune)
		n := withRoom()
		out, other := spans.Lead(n, 0, to, 0, api.MaxRune), spans.Lead(n, 0, to, 0, api.MaxRune)
		for i := range n {
			dirty(n[i].Arcs, api.Arc{Lo: -1, Hi: -1, To: -1})
			dirty(n[i].Free, -1)
		}
		dirty(n, api.Loose{Final: true})
		if !alike(out, want) {
			t.Errorf("to %d: %v behind a change of what was handed in, want %v", to, out, want)
		}
		for i := range out {
			dirty(out[i].Arcs, api.Arc{Lo: -2, Hi: -2, To: -2})
			out[i].Arcs = append(out[i].Arcs, api.Arc{})
			if !slices.Equal(out[i].Free, want[i].Free) || !alike(out[i+1:], want[i+1:]) {
				t.Errorf("to %d: %v behind a change of state %d's Arcs, want %v", to, out, i, want)
			}
			dirty(out[i].Free, -2)
			out[i].Free = append(out[i].Free, -3)
			if !alike(out[i+1:], want[i+1:]) {
				t.Errorf("to %d: %v behind a change of state %d's Free, want %v", to, out, i, want)
			}
		}
		dirty(out, api.Loose{Final: true, Free: []int{-4}})
		again := spans.Lead(withRoom(), 0, to, 0, api.MaxRune)
		if !alike(other, want) || !alike(again, want) {
			t.Errorf("to %d: %v and %v behind a change of another answer, want %v", to, other, again, want)
		}
	}
}
