package fst_test

import (
	"fmt"
	"math"
	"math/rand/v2"
	"slices"
	"strings"
	"testing"

	"gloss/api"
	"gloss/fst"
	"gloss/tuple"
)

// animals is the chapter's example.
var animals = []api.Entry{entry("cat", 5), entry("dog", 7), entry("hat", 3)}

const animalsBytes = "\x86\x83" + "\x81\x80" + "\x82\xf0\x04\x80\x80" + "\x82\xe1\x80\x81" + "\x82\xe7\x80\x80" + "\x82\xef\x80\x83" +
	"\x86\xe3\x82\x82\xe4\x84\x84\xe8\x80\x82"

// show answers a value's text, cut if it is long.
func show(v any) string {
	return fmt.Sprintf("%.100s", fmt.Sprintf("%q", fmt.Sprint(v)))
}

// built answers the bytes of a list that may be built.
func built(t *testing.T, list []api.Entry) string {
	t.Helper()
	s, e := fst.Build(list)
	if e != api.OK {
		t.Fatalf("Build(%s): error %d", show(list), e)
	}
	return s
}

// opened answers the dictionary that bytes are.
func opened(t *testing.T, s string) *fst.Dict {
	t.Helper()
	d, e := fst.Open(s)
	if e != api.OK || d == nil {
		t.Fatalf("Open(%.100q): error %d, nil: %v", s, e, d == nil)
	}
	return d
}

// isNotBuilt tells of a list for which Build doesn't answer an error, and nothing beside it.
func isNotBuilt(t *testing.T, list []api.Entry, want api.Errno) {
	t.Helper()
	if s, e := fst.Build(list); e != want || s != "" {
		t.Errorf("Build(%s): %.60q, error %d; want error %d", show(list), s, e, want)
	}
}

// isNotOpened tells of bytes for which Open doesn't answer an error, and nothing beside it.
func isNotOpened(t *testing.T, s string, want api.Errno) {
	t.Helper()
	if d, e := fst.Open(s); e != want || d != nil {
		t.Errorf("Open(%.100q): error %d, nil: %v; want error %d", s, e, d == nil, want)
	}
}

// isWhole tells of a list that isn't written, read back and walked along as it was, whatever its nodes are, and answers its
// dictionary.
func isWhole(t *testing.T, list []api.Entry) *fst.Dict {
	t.Helper()
	s := built(t, list)
	d := opened(t, s)
	all := d.All()
	if !slices.Equal(all, list) {
		t.Errorf("%s: All answers %s", show(list), show(all))
	}
	if way := walked(d); !slices.Equal(way, list) {
		t.Errorf("%s: by the ways one comes to %s", show(list), show(way))
	}
	if again := built(t, all); again != s {
		t.Errorf("%s: what is read is written as %.100q, want %.100q", show(list), again, s)
	}
	terms, nodes := d.Count()
	if terms != len(list) {
		t.Errorf("%s: Count answers %d terms", show(list), terms)
	}
	met := map[string]int{}
	for i := range nodes {
		n, ok := d.Node(i)
		name := fmt.Sprint(n.Final, n.Out, n.Ways)
		if place, is := met[name]; is || !ok {
			t.Errorf("%s: node %d: %s, %v, is as %d", show(list), i, show(n), ok, place)
		}
		met[name] = i
	}
	for _, i := range []int{-1, nodes, nodes + 1, math.MinInt, math.MaxInt} {
		if n, ok := d.Node(i); ok || !sameNode(n, api.Node{}) {
			t.Errorf("%s: node %d: %v, %v", show(list), i, n, ok)
		}
	}
	return d
}

// isDict tells of a list that isn't built and opened as the chapter tells it.
func isDict(t *testing.T, list []api.Entry) {
	t.Helper()
	nodes, least := nodesOf(list)
	if s, want := built(t, list), written(nodes, least); s != want {
		t.Errorf("Build(%s) = % x, want % x", show(list), s, want)
	}
	d := isWhole(t, list)
	if _, n := d.Count(); n != len(nodes) {
		t.Errorf("%s: Count answers %d nodes, want %d", show(list), n, len(nodes))
	}
	if root, out := d.Root(); root != len(nodes)-1 || out != least {
		t.Errorf("%s: Root answers %d, %d; want %d, %d", show(list), root, out, len(nodes)-1, least)
	}
	for i, want := range nodes {
		if n, ok := d.Node(i); !ok || !sameNode(n, want) {
			t.Errorf("%s: node %d: %v, %v; want %v", show(list), i, n, ok, want)
		}
	}
	isGot(t, d, list)
}

// isGot tells of terms that Get answers other than they are, and of such as aren't there: what begins them, what they
// begin, and what differs from them in a byte.
func isGot(t *testing.T, d *fst.Dict, list []api.Entry) {
	t.Helper()
	numbers := map[string]int{}
	for _, entry := range list {
		numbers[entry.Term] = entry.Out
	}
	ask := func(term string) {
		want, there := numbers[term]
		if n, ok := d.Get(term); n != want || ok != there {
			t.Errorf("%s: Get(%.100q) = %d, %v; want %d, %v", show(list), term, n, ok, want, there)
		}
	}
	ask("")
	for term := range numbers {
		for i := range len(term) {
			ask(term[:i])
			ask(term[i:])
			ask(term[:i] + string([]byte{term[i] + 1}) + term[i+1:])
			ask(term[:i] + string([]byte{term[i] - 1}) + term[i+1:])
			ask(term[:i] + term[i+1:])
		}
		ask(term)
		for _, more := range []string{"a", "\x00", "\xff", term} {
			ask(term + more)
			ask(more + term)
			ask(more)
		}
	}
}

// isJudged tells of bytes that are opened, or refused, other than the chapter tells it.
func isJudged(t *testing.T, s string) {
	t.Helper()
	list, want := told(s)
	if want != api.OK {
		isNotOpened(t, s, want)
		return
	}
	if d, e := fst.Open(s); e != api.OK || !slices.Equal(d.All(), list) || !slices.Equal(walked(d), list) {
		t.Errorf("Open(%.100q): %s, error %d; want %s", s, show(d.All()), e, show(list))
	}
}

// fewLists are lists that may be built, of each kind: no term and one, terms that begin one another, rests that are the same
// and that differ in their numbers alone, short terms and long ones, all bytes, all kinds of numbers.
func fewLists() map[string][]api.Entry {
	long, longer := strings.Repeat("x", 63), strings.Repeat("\xff", 64)
	var bytes, pairs []string
	for c := range 256 {
		bytes = append(bytes, string([]byte{byte(c)}))
		pairs = append(pairs, string([]byte{byte(c), byte(255 - c)}))
	}
	zero := func(int) int { return 0 }
	index := func(i int) int { return i }
	falling := func(i int) int { return 1000 - i }
	wide := func(i int) int { return math.MaxInt - i*i }
	words := []string{"car", "cars", "cat", "cats", "do", "dog", "dogs", "done", "hat", "hats", "heats", "x"}
	begun := []string{"a", "ab", "abc", "abcd", "b", "bc", "bcd"}
	return map[string][]api.Entry{
		"animals":            animals,
		"nothing":            nil,
		"one":                {entry("fox", 9)},
		"one byte":           {entry("a", 0)},
		"one of a 0":         {entry("\x00", 1)},
		"one of a 255":       {entry("\xff", math.MaxInt)},
		"one long":           {entry(longer, 12345)},
		"long ones":          {entry(long, 3), entry(long+"w", 2), entry(long+"x", 1), entry(longer, 4)},
		"begun":              listOf(begun, index),
		"begun, falling":     listOf(begun, falling),
		"begun, alike":       listOf(begun, zero),
		"words":              listOf(words, index),
		"words, falling":     listOf(words, falling),
		"words, alike":       listOf(words, zero),
		"words, wide":        listOf(words, wide),
		"zeros":              {entry("\x00", 4), entry("\x00\x00", 4), entry("\x00\x00\x00", 5), entry("\x00\x00\xff", 6), entry("\xff", 2), entry("\xff\x00", 1)},
		"bytes":              listOf(bytes, index),
		"bytes, alike":       listOf(bytes, zero),
		"bytes, wide":        listOf(bytes, wide),
		"pairs":              listOf(pairs, falling),
		"bytes and pairs":    listOf(slices.Concat(bytes, pairs), zero),
		"same rests":         {entry("ax", 5), entry("ay", 7), entry("bx", 15), entry("by", 17), entry("cx", 2), entry("cy", 4)},
		"same but numbers":   {entry("ax", 5), entry("ay", 7), entry("bx", 15), entry("by", 18), entry("cx", 7), entry("cy", 5)},
		"same, but one ends": {entry("a", 5), entry("ax", 6), entry("bx", 6), entry("c", 5), entry("cx", 7)},
		"great numbers":      {entry("a", math.MaxInt), entry("ab", 0), entry("b", math.MaxInt-1), entry("bc", math.MaxInt), entry("c", 1)},
		"greatest alone":     {entry("a", math.MaxInt), entry("ab", math.MaxInt), entry("b", math.MaxInt)},
		"no characters":      {entry("\x80", 1), entry("\xc0\x80", 2), entry("\xed\xa0\x80", 3)},
	}
}

// 12.2: the chapter's examples.
func TestExamples(t *testing.T) {
	if s := built(t, animals); s != animalsBytes {
		t.Errorf("Build(%v) = % x, want % x", animals, s, animalsBytes)
	}
	for _, none := range [][]api.Entry{nil, {}} {
		if s := built(t, none); s != "\x80\x80" {
			t.Errorf("Build of nothing = % x", s)
		}
	}
	isNotBuilt(t, []api.Entry{entry("b", 0), entry("a", 0)}, api.ErrForm)
	d := opened(t, animalsBytes)
	if all := d.All(); !slices.Equal(all, animals) {
		t.Errorf("All = %v", all)
	}
	if terms, nodes := d.Count(); terms != 3 || nodes != 6 {
		t.Errorf("Count = %d, %d", terms, nodes)
	}
	if root, out := d.Root(); root != 5 || out != 3 {
		t.Errorf("Root = %d, %d", root, out)
	}
	if n, ok := d.Node(0); !ok || !sameNode(n, api.Node{Final: true}) {
		t.Errorf("Node(0) = %v, %v", n, ok)
	}
	if n, ok := d.Node(5); !ok || !sameNode(n, api.Node{Ways: []api.Way{{C: 'c', Out: 2, To: 2}, {C: 'd', Out: 4, To: 4}, {C: 'h', Out: 0, To: 2}}}) {
		t.Errorf("Node(5) = %v, %v", n, ok)
	}
	isGot(t, d, animals)
}

// 12.2: bytes that are written out.
func TestKnownBytes(t *testing.T) {
	end := "\x81\x80" // of a term, nothing behind it
	for _, known := range []struct {
		list []api.Entry
		want string
	}{
		{[]api.Entry{entry("a", 0)}, "\x82\x80" + end + "\x82\xe1\x80\x80"},
		{[]api.Entry{entry("a", 9)}, "\x82\x89" + end + "\x82\xe1\x80\x80"},
		{[]api.Entry{entry("\x00", 1)}, "\x82\x81" + end + "\x82\x80\x80\x80"},
		{[]api.Entry{entry("\xff", 112)}, "\x82\xf0\x00" + end + "\x82\xf0\x8f\x80\x80"},
		{[]api.Entry{entry("a", math.MaxInt)}, "\x82\xf7\x7f\xff\xff\xff\xff\xff\xff\x8f" + end + "\x82\xe1\x80\x80"},
		{[]api.Entry{entry("a", 0), entry("b", math.MaxInt)}, "\x82\x80" + end + "\x84\xe1\x80\x80\xe2\xf7\x7f\xff\xff\xff\xff\xff\xff\x8f\x80"},
		{[]api.Entry{entry("a", 3), entry("b", 1)}, "\x82\x81" + end + "\x84\xe1\x82\x80\xe2\x80\x80"},
		// Terms that begin one another: the Out of a node that is final, and not the last one.
		{[]api.Entry{entry("a", 1), entry("ab", 2)}, "\x83\x81" + end + "\x83\x80\xe2\x81\x80" + "\x82\xe1\x80\x81"},
		{[]api.Entry{entry("a", 5), entry("ab", 2)}, "\x83\x82" + end + "\x83\x83\xe2\x80\x80" + "\x82\xe1\x80\x81"},
		{[]api.Entry{entry("a", 5), entry("ab", 5), entry("abc", 4)}, "\x84\x84" + end + "\x83\x81\xe3\x80\x80" + "\x83\x81\xe2\x80\x81" + "\x82\xe1\x80\x82"},
		// Rests that are the same, but for what all their numbers have: one node. But for one number: two.
		{[]api.Entry{entry("ax", 5), entry("ay", 7), entry("bx", 8), entry("by", 10)}, "\x83\x85" + end + "\x84\xf0\x08\x80\x80\xf0\x09\x82\x80" + "\x84\xe1\x80\x81\xe2\x83\x81"},
		{[]api.Entry{entry("ax", 5), entry("ay", 7), entry("bx", 8), entry("by", 11)}, "\x84\x85" + end + "\x84\xf0\x08\x80\x80\xf0\x09\x82\x80" + "\x84\xf0\x08\x80\x80\xf0\x09\x83\x80" + "\x84\xe1\x80\x81\xe2\x83\x82"},
		// Each way to its end first: behind a the node of b alone is met ahead of that of c and d.
		{[]api.Entry{entry("ab", 0), entry("bc", 0), entry("bd", 0), entry("cb", 0)}, "\x84\x80" + end + "\x82\xe2\x80\x80" + "\x84\xe3\x80\x80\xe4\x80\x80" + "\x86\xe1\x80\x81\xe2\x80\x82\xe3\x80\x81"},
	} {
		if s := built(t, known.list); s != known.want {
			t.Errorf("Build(%v) = % x, want % x", known.list, s, known.want)
		}
		isDict(t, known.list)
		isJudged(t, known.want)
	}
}

// 12.2 to 12.5: lists of each kind.
func TestFewLists(t *testing.T) {
	for _, list := range fewLists() {
		isDict(t, list)
	}
}

// 12.2 to 12.5: all lists of terms of up to three bytes out of two, with numbers that rise, fall, are alike and aren't.
func TestAllShortLists(t *testing.T) {
	for _, from := range []string{"ab", "\x00\xff"} {
		terms := textsOf(from, 3)
		slices.Sort(terms)
		for some := range 1 << len(terms) {
			var list []api.Entry
			for i, term := range terms {
				if some>>i&1 == 0 {
					continue
				}
				out := []int{0, i, 50 - i, some * (i + 3) >> 4 & 3, some * (i + 3) >> 3 & 1}[some%5]
				list = append(list, entry(term, out))
			}
			isDict(t, list)
		}
	}
}

// 12.2 to 12.5: drawn lists, by numbers that are always the same.
func TestDrawnLists(t *testing.T) {
	r := rand.New(rand.NewPCG(12, 2))
	for range 3000 {
		isDict(t, drawnList(r))
	}
}

// 12.2, 12.4: a node of 256 ways, with numbers up and down, which is final, or leads to such a one by each way.
func TestAllWays(t *testing.T) {
	var list []api.Entry
	for a := range 256 {
		for b := range 256 {
			list = append(list, entry(string([]byte{byte(a), byte(b)}), (a*7+b*5)%256))
		}
	}
	isWhole(t, list)
	for i := range list {
		list[i].Out = i/256*3 + i%256*2
	}
	d := isWhole(t, list)
	if terms, nodes := d.Count(); terms != api.MaxTerms || nodes != 3 {
		t.Errorf("Count = %d, %d", terms, nodes)
	}
	var ways []api.Way
	for c := range 256 {
		ways = append(ways, api.Way{C: c, Out: 2 * c, To: 0})
	}
	if n, _ := d.Node(1); !sameNode(n, api.Node{Ways: ways}) {
		t.Errorf("Node(1) = %v", n)
	}
	for i := range ways {
		ways[i].Out, ways[i].To = 3*i, 1
	}
	if n, _ := d.Node(2); !sameNode(n, api.Node{Ways: ways}) {
		t.Errorf("Node(2) = %v", n)
	}
	final := []api.Entry{entry("a", 3)}
	for c := range 256 {
		final = append(final, entry("a"+string([]byte{byte(c)}), c))
	}
	isDict(t, final)
}

// 12.1: terms and numbers that may not be, at each place.
func TestBuildRefuses(t *testing.T) {
	long := strings.Repeat("b", 65)
	for _, wrong := range []struct {
		term string
		out  int
		want api.Errno
	}{
		{"", 0, api.ErrInput}, {"", 7, api.ErrInput}, {"b", -1, api.ErrInput}, {"b", math.MinInt, api.ErrInput}, {"", -1, api.ErrInput},
		{long, 0, api.ErrLimit}, {long + long, 1, api.ErrLimit}, {strings.Repeat("b", 100000), math.MaxInt, api.ErrLimit},
		{long, -1, api.ErrInput}, {long, math.MinInt, api.ErrInput},
	} {
		list := []api.Entry{entry("a", 1), entry("ab", 1), entry("c", 3), entry("d", 0)}
		for i := range len(list) + 1 {
			isNotBuilt(t, slices.Insert(slices.Clone(list), i, entry(wrong.term, wrong.out)), wrong.want)
		}
		isNotBuilt(t, []api.Entry{entry(wrong.term, wrong.out)}, wrong.want)
	}
	isDict(t, []api.Entry{entry(long[1:], 0)})
}

// 12.1: terms that don't rise, byte by byte, as strings are compared.
func TestBuildRefusesOrder(t *testing.T) {
	for _, wrong := range [][]string{
		{"a", "a"}, {"b", "a"}, {"ab", "a"}, {"aa", "a"}, {"b", "ab"}, {"b", "aab"}, {"a", "B"}, {"a\x01", "a\x00"}, {"a\x00", "a"}, {"\x00\x00", "\x00"},
		{"\xff", "\x00"}, {"\xff", "\x7f"}, {"\x80", "\x7f"}, {"\xff", "a"}, {"\xc3\xa9", "z"}, {"\xff", "\xfe\xff"}, {"a10", "a1"}, {"9", "10"},
	} {
		isNotBuilt(t, []api.Entry{entry(wrong[0], 0), entry(wrong[1], 1)}, api.ErrForm)
		isNotBuilt(t, []api.Entry{entry("\x00", 0), entry(wrong[0], 0), entry(wrong[1], 0), entry("\xff\xff", 0)}, api.ErrForm)
		if wrong[0] != wrong[1] {
			isDict(t, []api.Entry{entry(wrong[1], 0), entry(wrong[0], 1)})
		}
	}
	// Each two terms change places.
	words := fewLists()["words"]
	for i := range words {
		for k := range i {
			list := slices.Clone(words)
			list[i], list[k] = list[k], list[i]
			isNotBuilt(t, list, api.ErrForm)
		}
	}
}

// 12.1: the first error, within an entry and between two.
func TestFirstError(t *testing.T) {
	var entries []api.Entry
	for _, term := range []string{"", "a", "b", strings.Repeat("a", 64), strings.Repeat("a", 65), strings.Repeat("c", 65)} {
		for _, out := range []int{-1, 0} {
			entries = append(entries, entry(term, out))
		}
	}
	seen := map[api.Errno]int{}
	for _, a := range entries {
		for _, b := range entries {
			for _, c := range entries {
				list := []api.Entry{a, b, c}
				want := firstError(list)
				if seen[want]++; want == api.OK {
					isDict(t, list)
				} else {
					isNotBuilt(t, list, want)
				}
			}
		}
	}
	for _, e := range []api.Errno{api.OK, api.ErrInput, api.ErrLimit, api.ErrForm} {
		if seen[e] == 0 {
			t.Errorf("no list with error %d", e)
		}
	}
	isNotBuilt(t, []api.Entry{entry("b", 0), entry("a", -1)}, api.ErrInput)
	isNotBuilt(t, []api.Entry{entry("b", 0), entry("a", 0), entry("", -1)}, api.ErrForm)
	isNotBuilt(t, []api.Entry{entry("b", 0), entry(strings.Repeat("a", 65), 0)}, api.ErrLimit)
	isNotBuilt(t, []api.Entry{entry(strings.Repeat("a", 65), 0), entry("", 0)}, api.ErrLimit)
	isNotBuilt(t, []api.Entry{entry("b", 0), entry("a", 0), entry(strings.Repeat("c", 65), 0)}, api.ErrForm)
}

// 12.1: as many entries as may be, and one more, whatever they are.
func TestBuildMany(t *testing.T) {
	var list []api.Entry
	for i := range 65537 {
		list = append(list, entry(fmt.Sprintf("%06d", i), i*7919%100003))
	}
	d := isWhole(t, list[:65536])
	for _, want := range list {
		if n, ok := d.Get(want.Term); ok != (want != list[65536]) || ok && n != want.Out {
			t.Errorf("Get(%q) = %d, %v; want %d", want.Term, n, ok, want.Out)
		}
	}
	isWhole(t, list[1:])
	isNotBuilt(t, list, api.ErrMany)
	isNotBuilt(t, make([]api.Entry, 65537), api.ErrMany)
	isNotBuilt(t, make([]api.Entry, 65536), api.ErrInput)
	isNotBuilt(t, slices.Repeat([]api.Entry{entry(strings.Repeat("x", 65), -1)}, 200000), api.ErrMany)
	last := slices.Clone(list[:65536])
	last[65535].Out = -1
	isNotBuilt(t, last, api.ErrInput)
	last[65535] = last[65534]
	isNotBuilt(t, last, api.ErrForm)
}

// 12.3: known bytes that are no dictionary.
func TestOpenRefuses(t *testing.T) {
	for s, want := range map[string]api.Errno{
		"":                                 api.ErrShort,
		"\x80":                             api.ErrShort,
		"\x81":                             api.ErrShort,
		"\x81\x80":                         api.ErrShort,
		"\x7f\x80":                         api.ErrForm, // counts below 0
		"\x80\x7f":                         api.ErrForm,
		"\x81\x80\x7f":                     api.ErrForm,
		"\x81\x80\x81\x7f":                 api.ErrForm,
		"\x82\x80\x81\x80\x82\x7f\x80\x80": api.ErrForm,
		"\x82\x80\x81\x80\x82\xe1\x7f\x80": api.ErrForm,
		"\x82\x80\x81\x80\x82\xe1\x80\x7f": api.ErrForm,
		"\x00\x80":                         api.ErrForm, // no numbers
		"\xf8\x80":                         api.ErrForm,
		"\xf1\x00\x05\x80":                 api.ErrForm,
		"\xf0":                             api.ErrShort,
		"\xf7\xff\xff\xff\xff\xff\xff\xff\xff\x80": api.ErrForm,
		"\x80\x81":                                             api.ErrForm, // the least number of no terms
		"\x80\x80\x80":                                         api.ErrTail,
		"\x80\x81\x80":                                         api.ErrTail,
		"\x80\x80\xff":                                         api.ErrTail,
		"\x81\x80\x80":                                         api.ErrForm, // a node without terms
		"\x81\x80\x80\x80":                                     api.ErrTail,
		"\x81\x80\x81\x80":                                     api.ErrForm, // the empty term
		"\x81\x80\x81\x81":                                     api.ErrForm,
		"\x81\x81\x81\x80":                                     api.ErrForm,
		"\x81\x80\x82\xe1\x80\x80":                             api.ErrForm, // a way to itself
		"\x81\x80\x82\xe1\x80\x81":                             api.ErrForm,
		"\x82\x80\x82\xe1\x80\x81\x81\x80":                     api.ErrForm, // to one behind it
		"\x82\x80\x81\x80\x82\xe1\x80\x80":                     api.OK,
		"\x82\x85\x81\x80\x82\xe1\x80\x80":                     api.OK,
		"\x82\x80\x81\x80\x82\xe1\x81\x80":                     api.ErrForm, // an Out that could be less
		"\x82\x80\x81\x81\x82\xe1\x80\x80":                     api.ErrForm,
		"\x82\x80\x81\x80\x83\x80\xe1\x80\x80":                 api.ErrForm, // the empty term among others
		"\x82\x80\x81\x80\x84\xe1\x80\x80\xe1\x80\x80":         api.ErrForm, // the same byte twice
		"\x82\x80\x81\x80\x84\xe2\x80\x80\xe1\x80\x80":         api.ErrForm,
		"\x82\x80\x81\x80\x84\xe1\x80\x80\xe2\x80\x80":         api.OK,
		"\x82\x80\x80\x82\xe1\x80\x80":                         api.ErrForm,
		"\x83\x80\x81\x80\x81\x80\x84\xe1\x80\x80\xe2\x80\x81": api.ErrForm, // two nodes alike
		"\x83\x80\x81\x80\x81\x80\x82\xe1\x80\x81":             api.ErrForm, // nothing leads to the first
	} {
		if want == api.OK {
			opened(t, s)
		} else {
			isNotOpened(t, s, want)
		}
		isJudged(t, s)
	}
}

// 12.3: the number of ways, as soon as it is read: that of 256 and less is read on.
func TestOpenHeads(t *testing.T) {
	for head := range 600 {
		want := api.ErrShort
		if head >= 514 {
			want = api.ErrForm
		}
		if head > 0 {
			isNotOpened(t, tuple.Nums(1, 0, head), want)
			isNotOpened(t, tuple.Nums(2, 0, 1, 0, head), want)
		}
		if head > 1 {
			isNotOpened(t, tuple.Nums(2, 0, 1, 0, head, 'a', 0), want)
		}
	}
	for _, head := range []int{514, 515, 516, 1 << 10, 1 << 32, 1<<32 + 2, 1<<33 + 1, math.MaxInt - 1, math.MaxInt} {
		isNotOpened(t, tuple.Nums(1, 0, head), api.ErrForm)
		isNotOpened(t, tuple.Nums(9, 0, 1, 0, head)+"\x00", api.ErrForm)
	}
	ways := make([]api.Way, 258)
	for i := range ways {
		ways[i].C = min(i, 255)
	}
	end := api.Node{Final: true}
	for final := range 2 {
		for n, want := range map[int]api.Errno{255: api.OK, 256: api.OK, 257: api.ErrForm, 258: api.ErrForm} {
			middle := api.Node{Final: final == 1, Ways: ways[:n]}
			s := written([]api.Node{end, middle, {Ways: []api.Way{{C: 'a', To: 1}}}}, 0)
			if want == api.OK {
				opened(t, s)
			} else {
				isNotOpened(t, s, want)
			}
			isJudged(t, s)
		}
	}
}

// 12.3: a way's byte and node are judged at its end, ahead of what stands behind it and behind what is ahead.
func TestOpenWays(t *testing.T) {
	for _, c := range []int{0, 1, 'a', 127, 128, 254, 255, 256, 257, 511, 512, 1 << 16, 1<<32 + 'a', math.MaxInt} {
		for _, to := range []int{0, 1, 2, 255, 256, 1 << 16, 1 << 32, math.MaxInt} {
			want := api.ErrForm
			if c < 256 && to < 1 {
				want = api.OK
			}
			s := tuple.Nums(2, 0, 1, 0, 2, c, 0, to)
			isJudged(t, s)
			switch {
			case want == api.OK:
				opened(t, s)
				isNotOpened(t, s+"\x00", api.ErrTail)
				isNotOpened(t, tuple.Nums(2, 0, 1, 0, 4, c, 0, to), api.ErrShort)
			default:
				isNotOpened(t, s, want)
				isNotOpened(t, s+"\x00", want)
				isNotOpened(t, tuple.Nums(2, 0, 1, 0, 4, c, 0, to), want)
			}
			isNotOpened(t, tuple.Nums(2, 0, 1, 0, 2, c, 0), api.ErrShort)
			isNotOpened(t, tuple.Nums(2, 0, 1, 0, 2, c), api.ErrShort)
			isNotOpened(t, tuple.Nums(2, 0, 1, 0, 2, c, 0)+"\xf8", api.ErrForm)
		}
	}
}

// doubled answers nodes of which each leads by two ways to the one ahead: behind the last of n are 2 to the power of n - 1
// terms of n - 1 bytes. The two bytes may be the same.
func doubled(n, a, b int) []api.Node {
	nodes := []api.Node{{Final: true}}
	for len(nodes) < n {
		to := len(nodes) - 1
		nodes = append(nodes, api.Node{Ways: []api.Way{{C: a, To: to}, {C: b, To: to}}})
	}
	return nodes
}

// 12.3: so many terms behind a node as may be, by two ways at each of 16 nodes: whether these have the same byte or not.
func TestOpenMost(t *testing.T) {
	for _, b := range []int{'a', 'b'} {
		s := written(doubled(17, 'a', b), 9)
		if b == 'a' {
			isNotOpened(t, s, api.ErrForm)
		} else if terms, nodes := opened(t, s).Count(); terms != 65536 || nodes != 17 {
			t.Errorf("Count = %d, %d", terms, nodes)
		}
		isJudged(t, s)
		isNotOpened(t, s+"\x00", api.ErrTail)
		isNotOpened(t, s[:len(s)-1], api.ErrShort)
		isNotOpened(t, "\x92"+s[1:], api.ErrShort)
		isNotOpened(t, "\x92"+s[1:]+"\xf8", api.ErrForm)
		// Half of them and one more.
		half := append(doubled(17, 'a', b), api.Node{Final: true, Ways: []api.Way{{C: 'a', To: 15}}})
		isNotOpened(t, written(half, 0), api.ErrForm)
		isNotOpened(t, written(half, 0)+"\x00", api.ErrTail)
	}
	wide := wideNodes()
	opened(t, written(wide, 0))
	isNotOpened(t, written(append(wide, api.Node{Ways: []api.Way{{C: 0, To: 2}}}), 0)+"\x00", api.ErrTail)
}

// wideNodes answers three nodes, behind the last of which are 256 times 256 terms.
func wideNodes() []api.Node {
	nodes := []api.Node{{Final: true}, {}, {}}
	for c := range 256 {
		nodes[1].Ways = append(nodes[1].Ways, api.Way{C: c, To: 0})
		nodes[2].Ways = append(nodes[2].Ways, api.Way{C: c, To: 1})
	}
	return nodes
}

// 12.3: more terms behind a node than may be, though the bytes are few, are found at the node's end, the same byte twice
// counted twice, whatever stands behind.
func TestOpenMany(t *testing.T) {
	isMany := func(nodes []api.Node, more api.Node) {
		t.Helper()
		s := written(append(slices.Clone(nodes), more), 0)
		behind := s[len(tuple.Nums(len(nodes)+1)):]
		isJudged(t, s)
		isNotOpened(t, s, api.ErrForm)
		isNotOpened(t, s+"\x00", api.ErrForm)
		isNotOpened(t, s[:len(s)-1], api.ErrShort)
		isNotOpened(t, tuple.Nums(len(nodes)+2)+behind, api.ErrForm)
		isNotOpened(t, tuple.Nums(100)+behind+"\x80\x80\x80", api.ErrForm)
	}
	for _, b := range []int{'a', 'b'} {
		most := doubled(17, 'a', b)
		isMany(most, api.Node{Final: true, Ways: []api.Way{{C: 'a', To: 16}}})
		isMany(most, api.Node{Final: true, Out: 7, Ways: []api.Way{{C: 'a', To: 16}}})
		isMany(most, api.Node{Ways: []api.Way{{C: 'a', To: 16}, {C: 'b', To: 0}}})
		isMany(most, api.Node{Ways: []api.Way{{C: 'a', To: 0}, {C: 'b', To: 16}}})
		isMany(most, api.Node{Ways: []api.Way{{C: 'a', To: 16}, {C: b, To: 16}}})
		isMany(most, api.Node{Final: true, Ways: []api.Way{{C: 'a', To: 15}, {C: b, To: 15}}})
		for n := 18; n < 70; n++ {
			isNotOpened(t, written(doubled(n, 'a', b), 0), api.ErrForm)
		}
	}
	wide := wideNodes()
	isMany(wide, api.Node{Ways: []api.Way{{C: 0, To: 2}, {C: 1, To: 0}}})
	isMany(wide, api.Node{Final: true, Ways: []api.Way{{C: 0, To: 2}}})
	isMany(wide[:2], api.Node{Final: true, Ways: wide[2].Ways})
}

// chained answers nodes each of which leads to the one ahead, behind a first one.
func chained(n int, first api.Node) []api.Node {
	nodes := []api.Node{first}
	for len(nodes) < n {
		nodes = append(nodes, api.Node{Ways: []api.Way{{C: 'x', To: len(nodes) - 1}}})
	}
	return nodes
}

// 12.3: terms of more bytes than may be are found at the end of the node behind which they are.
func TestOpenLong(t *testing.T) {
	end := api.Node{Final: true}
	isJudged(t, written(chained(65, end), 3))
	d := opened(t, written(chained(65, end), 3))
	if all := d.All(); len(all) != 1 || all[0] != entry(strings.Repeat("x", 64), 3) {
		t.Errorf("All = %v", all)
	}
	isNotOpened(t, written(chained(65, end), 3)+"\x00", api.ErrTail)
	long := chained(66, end)
	isNotOpened(t, written(long, 0), api.ErrForm)
	isNotOpened(t, written(long, 0)+"\x00", api.ErrForm)
	isNotOpened(t, tuple.Nums(70)+written(long, 0)[1:], api.ErrForm)
	s := written(long, 0)
	isNotOpened(t, s[:len(s)-1], api.ErrShort)
	// The longest way tells, first or last, and though others end early.
	for i := range 2 {
		ways := []api.Way{{C: 'a', To: 64 * i}, {C: 'b', To: 64 - 64*i}}
		for _, final := range []bool{false, true} {
			nodes := append(chained(65, end), api.Node{Final: final, Ways: ways})
			isNotOpened(t, written(nodes, 0), api.ErrForm)
			isNotOpened(t, written(nodes, 0)+"\x00", api.ErrForm)
		}
		ways[i].To, ways[1-i].To = 0, 63
		nodes := append(chained(64, end), api.Node{Ways: ways})
		isNotOpened(t, written(nodes, 0)+"\x00", api.ErrTail)
		opened(t, written(nodes, 0))
	}
	// A node that is final begins anew what stands behind it, but not the longer rests.
	nodes := chained(66, end)
	nodes[30].Final = true
	isNotOpened(t, written(nodes, 0)+"\x00", api.ErrForm)
	isNotOpened(t, written(nodes[:65], 0)+"\x00", api.ErrTail)
	opened(t, written(nodes[:65], 0))
}

// 12.3: behind a node without terms there are no long ones, nor many, however many ways there are.
func TestOpenWithoutTerms(t *testing.T) {
	for _, n := range []int{1, 2, 3, 64, 65, 66, 67, 200, 3000} {
		for _, nodes := range [][]api.Node{chained(n, api.Node{}), doubled(n, 'a', 'b'), doubled(n, 'a', 'a')} {
			nodes[0].Final = false
			s := written(nodes, 0)
			isNotOpened(t, s, api.ErrForm)
			isNotOpened(t, s+"\x80", api.ErrTail)
			isNotOpened(t, s[:len(s)-1], api.ErrShort)
			isNotOpened(t, tuple.Nums(n+1)+s[len(tuple.Nums(n)):], api.ErrShort)
			isJudged(t, s)
		}
	}
	// Beside a term there is a way to no term: it is no longer and no more.
	dead := chained(100, api.Node{})
	dead = append(dead, api.Node{Final: true}, api.Node{Ways: []api.Way{{C: 'a', To: 99}, {C: 'b', To: 100}, {C: 'c', To: 99}}})
	isNotOpened(t, written(dead, 0), api.ErrForm)
	isNotOpened(t, written(dead, 0)+"\x80", api.ErrTail)
	for len(dead) < 100+65 {
		dead = append(dead, api.Node{Ways: []api.Way{{C: 'a', To: 99}, {C: 'b', To: len(dead) - 1}}})
	}
	isNotOpened(t, written(dead, 0)+"\x80", api.ErrTail)
	dead = append(dead, api.Node{Ways: []api.Way{{C: 'b', To: len(dead) - 1}}})
	isNotOpened(t, written(dead, 0)+"\x80", api.ErrForm)
}

// 12.3: counts that are too great for the bytes, and too small.
func TestOpenCounts(t *testing.T) {
	for name, list := range fewLists() {
		s := built(t, list)
		nums := numbersOf(s)
		behind := tuple.Nums(nums[1:]...)
		for n := range nums[0] {
			isJudged(t, tuple.Nums(n)+behind)
			if n > 0 {
				isNotOpened(t, tuple.Nums(n)+behind, api.ErrTail)
			}
		}
		for _, more := range []int{1, 2, 100, 1 << 16, 1 << 22, 1<<22 + 1, 1 << 32, 1 << 61, math.MaxInt - nums[0]} {
			if name != "nothing" || more != 1 {
				isNotOpened(t, tuple.Nums(nums[0]+more)+behind, api.ErrShort)
			}
		}
		for _, wrong := range []int{-1, -nums[0], math.MinInt} {
			if wrong < 0 {
				isNotOpened(t, tuple.Nums(wrong)+behind, api.ErrForm)
			}
		}
	}
}

// 12.2 to 12.5: terms that have little in common, which make very many nodes.
func TestManyNodes(t *testing.T) {
	r := rand.New(rand.NewPCG(12, 1))
	terms := make([]string, 65536)
	for i := range terms {
		b := make([]byte, 9)
		for k := range b {
			b[k] = byte(r.IntN(256))
		}
		terms[i] = string(b)
	}
	d := isWhole(t, listOf(terms, func(i int) int { return i * i }))
	if _, nodes := d.Count(); nodes < 4*65536 {
		t.Errorf("Count = %d nodes", nodes)
	}
}

// 12.3: more nodes than terms can have, which are no dictionary, are read to their end.
func TestOpenVeryMany(t *testing.T) {
	const many = 1<<22 + 10
	for _, node := range []string{"\x80", "\x81\x80"} {
		s := tuple.Nums(many, 0) + strings.Repeat(node, many)
		isNotOpened(t, s, api.ErrForm)
		isNotOpened(t, s+"\x80", api.ErrTail)
		isNotOpened(t, s[:len(s)-1], api.ErrShort)
	}
}

// 12.3: numbers that come to more than 63 bits along the ways, also if 64 bits turn round to what may be.
func TestOpenGreatNumbers(t *testing.T) {
	numbers := []int{0, 1, 2, 3, 1 << 62, math.MaxInt - 1, math.MaxInt}
	for _, least := range numbers {
		for _, a := range numbers {
			for _, b := range numbers {
				for _, c := range numbers {
					s := written([]api.Node{{Final: true}, {Final: true, Out: a, Ways: []api.Way{{C: 'a', Out: b, To: 0}}}, {Ways: []api.Way{{C: 'a', Out: 0, To: 1}, {C: 'b', Out: c, To: 1}}}}, least)
					isJudged(t, s)
				}
			}
		}
	}
	opened(t, written([]api.Node{{Final: true}, {Ways: []api.Way{{C: 'a', To: 0}, {C: 'b', Out: 1, To: 0}}}}, math.MaxInt-1))
	isNotOpened(t, written([]api.Node{{Final: true}, {Ways: []api.Way{{C: 'a', To: 0}, {C: 'b', Out: 1, To: 0}}}}, math.MaxInt), api.ErrForm)
}

// 12.3: each byte changed, left out and put in, the bytes cut at each place, and with something behind.
func TestOpenChangedBytes(t *testing.T) {
	lists := fewLists()
	for _, name := range []string{"animals", "nothing", "one byte", "begun, falling", "same rests", "same but numbers", "same, but one ends", "zeros", "great numbers"} {
		s := built(t, lists[name])
		isJudged(t, s)
		for i := range len(s) + 1 {
			if i < len(s) {
				isNotOpened(t, s[:i], api.ErrShort)
				isJudged(t, s[:i]+s[i+1:])
			}
			for c := range 256 {
				one := string([]byte{byte(c)})
				isJudged(t, s[:i]+one+s[i:])
				if i < len(s) {
					isJudged(t, s[:i]+one+s[i+1:])
				}
			}
		}
		for _, more := range []string{"\x00", "\x80", "\xff", s, animalsBytes, "\x80\x80", strings.Repeat("\x81", 1000)} {
			isNotOpened(t, s+more, api.ErrTail)
		}
	}
	// Of longer ones, some changes.
	r := rand.New(rand.NewPCG(12, 3))
	for _, list := range lists {
		s := built(t, list)
		for range 60 {
			b := []byte(s)
			for range 1 + r.IntN(2) {
				b[r.IntN(len(b))] ^= 1 << r.IntN(8)
			}
			isJudged(t, string(b))
			i := r.IntN(len(s))
			isNotOpened(t, s[:i], api.ErrShort)
		}
	}
}

// 12.3: each number of a dictionary changed, left out, put in twice, and each two side by side in the other order.
func TestOpenChangedNumbers(t *testing.T) {
	lists := fewLists()
	for _, name := range []string{"animals", "one byte", "begun", "words, alike", "words, falling", "same rests", "same but numbers", "great numbers", "zeros"} {
		nums := numbersOf(built(t, lists[name]))
		for i, n := range nums {
			for _, other := range []int{n - 1, n + 1, n - 2, n + 2, n ^ 4, n + 256, 0, 1, 2, 3, 255, 256, 512, 513, 514, 1 << 32, math.MaxInt, -1, math.MinInt} {
				isJudged(t, tuple.Nums(slices.Concat(nums[:i], []int{other}, nums[i+1:])...))
			}
			isJudged(t, tuple.Nums(slices.Concat(nums[:i], nums[i+1:])...))
			isJudged(t, tuple.Nums(slices.Concat(nums[:i], []int{n, n}, nums[i+1:])...))
			for k := i + 1; k < min(i+8, len(nums)); k++ {
				swapped := slices.Clone(nums)
				swapped[i], swapped[k] = nums[k], n
				isJudged(t, tuple.Nums(swapped...))
			}
		}
	}
}

// 12.3: the nodes in each other order, though each is behind those to which it leads.
func TestOpenOrders(t *testing.T) {
	lists := fewLists()
	mayStand := 0
	for _, name := range []string{"animals", "begun", "same rests", "same but numbers", "same, but one ends"} {
		nodes, least := nodesOf(lists[name])
		for _, places := range orders(len(nodes)) {
			if slices.IsSorted(places) {
				continue
			}
			s := written(moved(nodes, places), least)
			isNotOpened(t, s, api.ErrForm)
			// Cut ahead of the last byte, those that may be read so far are found to be short alone.
			if _, e := told(s[:len(s)-1]); e == api.ErrShort {
				mayStand++
				isNotOpened(t, s+"\x80", api.ErrTail)
			}
		}
	}
	if mayStand == 0 {
		t.Error("no order in which each node is behind those to which it leads")
	}
}

// 12.3: a node that is told twice, to one of which or to both of which ways lead, and a node to which nothing leads.
func TestOpenNeedlessNodes(t *testing.T) {
	for name, list := range fewLists() {
		nodes, least := nodesOf(list)
		if len(nodes) == 0 || len(nodes) > 60 {
			continue
		}
		for i, n := range nodes {
			// One more of a node, at each place behind it; then the ways to it lead to the other one, one way at a time.
			for place := i + 1; place <= len(nodes); place++ {
				more := putIn(nodes, place, n)
				isNotOpened(t, written(more, least), api.ErrForm)
				for k := place + 1; k < len(more); k++ {
					for w, way := range more[k].Ways {
						if way.To == i {
							twice := copyOf(more)
							twice[k].Ways[w].To = place
							isNotOpened(t, written(twice, least), api.ErrForm)
						}
					}
				}
			}
		}
		for place := range nodes {
			for _, n := range []api.Node{{}, {Final: true}, {Final: true, Out: 5}} {
				isNotOpened(t, written(putIn(nodes, place, n), least), api.ErrForm)
			}
		}
		if t.Failed() {
			t.Fatal(name)
		}
	}
}

// 12.3: ways that don't rise, and the same byte twice.
func TestOpenWaysOtherwise(t *testing.T) {
	for _, list := range fewLists() {
		nodes, least := nodesOf(list)
		for i, n := range nodes {
			isOther := func(change func(ways []api.Way) []api.Way) {
				t.Helper()
				other := copyOf(nodes)
				other[i].Ways = change(other[i].Ways)
				isNotOpened(t, written(other, least), api.ErrForm)
			}
			for k := range min(len(n.Ways), 20) {
				for l := range k {
					isOther(func(ways []api.Way) []api.Way {
						ways[k], ways[l] = ways[l], ways[k]
						return ways
					})
					isOther(func(ways []api.Way) []api.Way {
						ways[k].C = ways[l].C
						return ways
					})
				}
				isOther(func(ways []api.Way) []api.Way { return slices.Insert(ways, k, ways[k]) })
				isOther(func(ways []api.Way) []api.Way { return append(ways, ways[k]) })
			}
		}
	}
}

// 12.3: Outs that could be less, as the numbers ahead of them could be more; each node's.
func TestOpenGreaterOuts(t *testing.T) {
	for _, list := range fewLists() {
		nodes, least := nodesOf(list)
		for i := range nodes {
			isNotOpened(t, written(raised(nodes, i), least), api.ErrForm)
			if i == len(nodes)-1 && least > 0 {
				isNotOpened(t, written(raised(nodes, i), least-1), api.ErrForm)
			}
		}
	}
}

// raised answers nodes one of which has Outs that are one more each, and one less ahead of it, where there is as much.
func raised(nodes []api.Node, i int) []api.Node {
	out := changed(nodes, func(w api.Way) api.Way {
		if w.To == i && w.Out > 0 {
			w.Out--
		}
		return w
	})
	if out[i].Final {
		out[i].Out++
	}
	for k := range out[i].Ways {
		out[i].Ways[k].Out++
	}
	return out
}

// 12.3: all rows of up to seven bytes that may stand in a dictionary.
func TestOpenAllShort(t *testing.T) {
	for _, s := range textsOf("\x80\x81\x82\x83\x84", 7) {
		isJudged(t, s)
	}
	for _, ahead := range []string{"\x82\x80\x81\x80", "\x83\x80\x81\x80", "\x83\x80\x81\x80\x82\x81\x80\x80", "\x82\x85\x81\x80"} {
		for _, s := range textsOf("\x80\x81\x82\x83\x84\xe1", 6) {
			isJudged(t, ahead+s)
		}
	}
}

// 12.3: drawn nodes, some of which are a dictionary.
func TestOpenDrawnNodes(t *testing.T) {
	r := rand.New(rand.NewPCG(12, 4))
	seen := map[api.Errno]int{}
	for range 100000 {
		s := written(drawnNodes(r), r.IntN(3))
		_, e := told(s)
		seen[e]++
		isJudged(t, s)
	}
	if seen[api.OK] < 100 || seen[api.ErrForm] < 100 {
		t.Errorf("of each error: %v", seen)
	}
}

// 12.3: drawn bytes.
func TestOpenDrawnBytes(t *testing.T) {
	r := rand.New(rand.NewPCG(12, 5))
	for range 100000 {
		b := make([]byte, r.IntN(20))
		for i := range b {
			b[i] = byte(r.IntN(256))
			if r.IntN(3) > 0 {
				b[i] = byte(0x80 + r.IntN(6))
			}
		}
		isJudged(t, string(b))
	}
}

// 12.4: texts that are longer than any term, and begin with one.
func TestGetLong(t *testing.T) {
	for name, list := range fewLists() {
		d := opened(t, built(t, list))
		for _, begin := range append(list, entry("", 0)) {
			for _, more := range []string{"x", "\x00", "\xff"} {
				if n, ok := d.Get(begin.Term + strings.Repeat(more, 10000)); ok || n != 0 {
					t.Errorf("%s: Get(%q and so on) = %d, %v", name, begin.Term+more, n, ok)
				}
			}
		}
	}
}

// 12.4: of a nil dictionary there is nothing.
func TestNil(t *testing.T) {
	var d *fst.Dict
	if all := d.All(); len(all) != 0 {
		t.Errorf("All = %v", all)
	}
	if terms, nodes := d.Count(); terms != 0 || nodes != 0 {
		t.Errorf("Count = %d, %d", terms, nodes)
	}
	if root, out := d.Root(); root != -1 || out != 0 {
		t.Errorf("Root = %d, %d", root, out)
	}
	for _, i := range []int{-1, 0, 1, math.MinInt, math.MaxInt} {
		if n, ok := d.Node(i); ok || !sameNode(n, api.Node{}) {
			t.Errorf("Node(%d) = %v, %v", i, n, ok)
		}
	}
	for _, term := range []string{"", "a", "\x00", strings.Repeat("x", 1000)} {
		if n, ok := d.Get(term); n != 0 || ok {
			t.Errorf("Get(%.20q) = %d, %v", term, n, ok)
		}
	}
}

// 12.4: of no terms there is nothing, but no nil dictionary.
func TestNothing(t *testing.T) {
	d := opened(t, "\x80\x80")
	if root, out := d.Root(); root != -1 || out != 0 {
		t.Errorf("Root = %d, %d", root, out)
	}
	if terms, nodes := d.Count(); terms != 0 || nodes != 0 || len(d.All()) != 0 {
		t.Errorf("Count = %d, %d; All = %v", terms, nodes, d.All())
	}
	for _, term := range []string{"", "a", "\x00"} {
		if n, ok := d.Get(term); n != 0 || ok {
			t.Errorf("Get(%q) = %d, %v", term, n, ok)
		}
	}
}

// Rule 4: what is answered is new memory, spare room included: what is written there no other answer shows.
func TestNewMemory(t *testing.T) {
	for _, list := range fewLists() {
		d := opened(t, built(t, list))
		nodes, least := nodesOf(list)
		first, second := d.All(), d.All()
		scrawl(first, entry("scrawled", -1))
		if !slices.Equal(second, list) || !slices.Equal(d.All(), list) {
			t.Errorf("%s: what is written into All's answer shows", show(list))
		}
		var all []api.Node
		for range 2 {
			for i := range nodes {
				n, _ := d.Node(i)
				all = append(all, n)
			}
		}
		for i, n := range all {
			if !sameNode(n, nodes[i%len(nodes)]) {
				t.Errorf("%s: node %d shows what was written into another: %s", show(list), i%len(nodes), show(n))
			}
			scrawl(n.Ways, api.Way{C: -1, Out: -2, To: -3})
			_ = append(n.Ways, api.Way{C: -4, Out: -5, To: -6})
		}
		if !slices.Equal(walked(d), list) {
			t.Errorf("%s: what is written into nodes shows", show(list))
		}
		isGot(t, d, list)
		if terms, n := d.Count(); terms != len(list) || n != len(nodes) {
			t.Errorf("%s: Count = %d, %d", show(list), terms, n)
		}
		if root, out := d.Root(); root != len(nodes)-1 || out != least {
			t.Errorf("%s: Root = %d, %d", show(list), root, out)
		}
	}
}

// scrawl writes something into all that a list has room for.
func scrawl[T any](list []T, x T) {
	for i := range list[:cap(list)] {
		list[:cap(list)][i] = x
	}
}

// Rule 4, rule 6: what is handed in isn't changed, spare room included, and isn't kept; the same list is built the same.
func TestArgumentsAreLeft(t *testing.T) {
	for _, list := range fewLists() {
		for n := range len(list) + 1 {
			roomy := append(slices.Clone(list), entry("behind", -1), entry("", 0))
			whole := slices.Clone(roomy[:cap(roomy)])
			s := built(t, roomy[:n])
			if !slices.Equal(roomy[:cap(roomy)], whole) {
				t.Fatalf("Build(%s) changed its list", show(list[:n]))
			}
			d := opened(t, s)
			scrawl(roomy, entry("scrawled", 1))
			if !slices.Equal(d.All(), list[:n]) || built(t, list[:n]) != s {
				t.Fatalf("%s: what is written into the list shows", show(list[:n]))
			}
			if n > 20 {
				break
			}
		}
	}
}

// Rule 6: two dictionaries don't hang on one another.
func TestTwoDictionaries(t *testing.T) {
	lists := fewLists()
	a, b := opened(t, built(t, lists["words"])), opened(t, built(t, lists["words, falling"]))
	for range 2 {
		isGot(t, a, lists["words"])
		isGot(t, b, lists["words, falling"])
		if !slices.Equal(a.All(), lists["words"]) || !slices.Equal(b.All(), lists["words, falling"]) {
			t.Errorf("All = %v and %v", a.All(), b.All())
		}
	}
}
