package posting_test

import (
	"fmt"
	"math"
	"math/rand/v2"
	"runtime"
	"slices"
	"strings"
	"testing"

	"gloss/api"
	"gloss/bitpack"
	"gloss/posting"
	"gloss/tuple"
)

// isChecked tells of postings of which Check, Pack or New doesn't answer this error.
func isChecked(t *testing.T, list []api.Post, want api.Errno) {
	t.Helper()
	if e := posting.Check(list); e != want {
		t.Errorf("Check(%s): error %d, want %d", show(list), e, want)
	}
	if s, e := posting.Pack(list); e != want || (s == "") != (want != api.OK) {
		t.Errorf("Pack(%s) = % .80x, error %d, want %d", show(list), s, e, want)
	}
	if c, e := posting.New(list); e != want || (c == nil) != (want != api.OK) {
		t.Errorf("New(%s) = %v, error %d, want %d", show(list), c != nil, e, want)
	}
}

// isPacked tells of postings that aren't packed as these bytes, or these not read as those.
func isPacked(t *testing.T, name string, list []api.Post, want string) {
	t.Helper()
	if s, e := posting.Pack(list); s != want || e != api.OK {
		t.Errorf("%s: Pack(%s) = % .80x, error %d; want % .80x", name, show(list), s, e, want)
	}
	if got, e := posting.Read(want); !isSame(got, list) || e != api.OK {
		t.Errorf("%s: Read(% .80x) = %s, error %d; want %s", name, want, show(got), e, show(list))
	}
}

// 14.2, 14.3: postings and their bytes: the chapter's example, and others written out.
func TestPackAndRead(t *testing.T) {
	for _, known := range []struct {
		list []api.Post
		s    string
	}{
		{nil, "\x80\x80\x80"},
		{[]api.Post{}, "\x80\x80\x80"},
		{[]api.Post{post(3, 0, 2), post(4, 1)}, "\x82\x02\x07" + "\x82\x02\x06" + "\x83\x02\x18"},
		{[]api.Post{post(0, 0)}, "\x81\x00" + "\x81\x01\x01" + "\x81\x00"},
		{[]api.Post{post(0, 1)}, "\x81\x00" + "\x81\x01\x01" + "\x81\x01\x01"},
		{[]api.Post{post(1, 0)}, "\x81\x01\x01" + "\x81\x01\x01" + "\x81\x00"},
		{[]api.Post{post(0, 0, 1)}, "\x81\x00" + "\x81\x02\x02" + "\x82\x01\x02"},
		{[]api.Post{post(0, 0), post(1, 0)}, "\x82\x01\x02" + "\x82\x01\x03" + "\x82\x00"},
		{[]api.Post{post(2, 7), post(5, 6), post(6, 5, 7)}, "\x83\x02\x1e" + "\x83\x02\x25" + "\x84\x03\x77\x05"},
		{[]api.Post{post(api.MaxDocs-1, api.MaxText-1)}, "\x81\x14\xff\xff\x0f" + "\x81\x01\x01" + "\x81\x0c\xff\x0f"},
		{[]api.Post{post(9, row(0, 128, 1)...)}, "\x81\x04\x09" + "\x81\x08\x80" + "\xf0\x10\x01\xfe" + strings.Repeat("\xff", 15)},
		{rowOf(0, 1, 1), "\x81\x00\x81\x01\x01\x81\x00"},
	} {
		isPacked(t, "known", known.list, known.s)
		isChecked(t, known.list, api.OK)
	}
}

// 14.2, 14.5: lists of each kind.
func TestLists(t *testing.T) {
	for name, list := range lists() {
		isChecked(t, list, api.OK)
		isPacked(t, name, list, plainPack(list))
	}
}

// 14.5: drawn lists.
func TestDrawn(t *testing.T) {
	r := rand.New(rand.NewPCG(14, 5))
	for range 3000 {
		list := drawnList(r)
		isPacked(t, "drawn", list, plainPack(list))
	}
}

// 14.1 to 14.4: as many postings as may be, and one more.
func TestManyPostings(t *testing.T) {
	list := rowOf(0, api.MaxDocs, 1)
	isChecked(t, list, api.OK)
	isPacked(t, "as many as may be", list, plainPack(list))
	isChecked(t, append(list, post(api.MaxDocs, 0)), api.ErrLimit)
	isChecked(t, append(list, post(api.MaxDocs-1, 0)), api.ErrForm)
	for i := range list {
		list[i].At = []int{0}
	}
	isPacked(t, "all at 0", list, plainPack(list))
	some := rowOf(100, 600, 1700)
	for i := range some {
		some[i].At = row(0, api.MaxText, 1)
	}
	isPacked(t, "all places", some, plainPack(some))
}

// 14.1: each fault, in a list of one, and the edges beside it.
func TestCheckOfOne(t *testing.T) {
	for _, c := range []struct {
		p    api.Post
		want api.Errno
	}{
		{post(0, 0), api.OK},
		{post(-1, 0), api.ErrForm},
		{post(-2, 0), api.ErrForm},
		{post(math.MinInt, 0), api.ErrForm},
		{post(api.MaxDocs-1, 0), api.OK},
		{post(api.MaxDocs, 0), api.ErrLimit},
		{post(api.MaxDocs+1, 0), api.ErrLimit},
		{post(math.MaxInt, 0), api.ErrLimit},
		{post(0), api.ErrForm},
		{api.Post{At: []int{}}, api.ErrForm},
		{post(0, -1), api.ErrForm},
		{post(0, math.MinInt), api.ErrForm},
		{post(0, api.MaxText-1), api.OK},
		{post(0, api.MaxText), api.ErrLimit},
		{post(0, api.MaxText+1), api.ErrLimit},
		{post(0, math.MaxInt), api.ErrLimit},
		{post(0, 0, 0), api.ErrForm},
		{post(0, 5, 5), api.ErrForm},
		{post(0, 5, 4), api.ErrForm},
		{post(0, 5, 6), api.OK},
		{post(0, 5, -1), api.ErrForm},
		{post(0, 0, api.MaxText-1), api.OK},
		{post(0, 0, api.MaxText), api.ErrLimit},
		{post(0, api.MaxText-1, api.MaxText-1), api.ErrForm},
		{post(0, api.MaxText-1, api.MaxText), api.ErrLimit},
		{post(0, row(0, api.MaxText, 1)...), api.OK},
		{post(0, row(1, api.MaxText, 1)...), api.ErrLimit},
		{post(0, row(0, api.MaxText+1, 1)...), api.ErrLimit},
	} {
		isChecked(t, []api.Post{c.p}, c.want)
		// Whatever stands behind a fault is no matter; a posting that may be doesn't hide one behind it.
		if c.want != api.OK {
			isChecked(t, []api.Post{c.p, post(-5), post(api.MaxDocs)}, c.want)
		}
	}
}

// 14.1: a Doc and the one ahead of it.
func TestCheckOfDocs(t *testing.T) {
	for _, c := range []struct {
		docs []int
		want api.Errno
	}{
		{[]int{0, 1}, api.OK},
		{[]int{0, 0}, api.ErrForm},
		{[]int{1, 0}, api.ErrForm},
		{[]int{7, 6}, api.ErrForm},
		{[]int{7, 7}, api.ErrForm},
		{[]int{7, 8}, api.OK},
		{[]int{7, -1}, api.ErrForm},
		{[]int{3, 5, 4}, api.ErrForm},
		{[]int{3, 5, 5}, api.ErrForm},
		{[]int{3, 5, 6}, api.OK},
		{[]int{5, 3, 4}, api.ErrForm},
		{[]int{0, api.MaxDocs - 1}, api.OK},
		{[]int{0, api.MaxDocs}, api.ErrLimit},
		{[]int{0, api.MaxDocs + 1}, api.ErrLimit},
		{[]int{api.MaxDocs - 1, api.MaxDocs - 1}, api.ErrForm},
		{[]int{api.MaxDocs - 2, api.MaxDocs - 1}, api.OK},
		{[]int{api.MaxDocs - 1, api.MaxDocs - 2}, api.ErrForm},
		{[]int{api.MaxDocs - 1, api.MaxDocs}, api.ErrLimit},
		{[]int{api.MaxDocs, 0}, api.ErrLimit},
	} {
		var list []api.Post
		for _, doc := range c.docs {
			list = append(list, post(doc, 3))
		}
		isChecked(t, list, c.want)
	}
}

// 14.1: of several faults the first one is told, within a posting and from posting to posting.
func TestCheckOfSeveral(t *testing.T) {
	for _, c := range []struct {
		list []api.Post
		want api.Errno
	}{
		{[]api.Post{post(api.MaxDocs)}, api.ErrLimit},
		{[]api.Post{post(api.MaxDocs, -1)}, api.ErrLimit},
		{[]api.Post{post(api.MaxDocs, 2, 2)}, api.ErrLimit},
		{[]api.Post{post(-1, api.MaxText)}, api.ErrForm},
		{[]api.Post{post(4, 1), post(4, api.MaxText)}, api.ErrForm},
		{[]api.Post{post(4, 1), post(3, api.MaxText)}, api.ErrForm},
		{[]api.Post{post(4, 1), post(api.MaxDocs, 5, 4)}, api.ErrLimit},
		{[]api.Post{post(0, api.MaxText, api.MaxText)}, api.ErrLimit},
		{[]api.Post{post(0, api.MaxText, 0)}, api.ErrLimit},
		{[]api.Post{post(0, api.MaxText, -1)}, api.ErrLimit},
		{[]api.Post{post(0, -1, api.MaxText)}, api.ErrForm},
		{[]api.Post{post(0, 3, 3, api.MaxText)}, api.ErrForm},
		{[]api.Post{post(0, 3, api.MaxText, 3)}, api.ErrLimit},
		{[]api.Post{post(0, api.MaxText), post(0, 1)}, api.ErrLimit},
		{[]api.Post{post(0, 1, 1), post(api.MaxDocs, 1)}, api.ErrForm},
		{[]api.Post{post(0), post(api.MaxDocs, 1)}, api.ErrForm},
		{[]api.Post{post(-1, 1), post(api.MaxDocs, 1)}, api.ErrForm},
		{[]api.Post{post(api.MaxDocs, 1), post(-1, 1)}, api.ErrLimit},
		{[]api.Post{post(1, 1), post(2, 1), post(3, api.MaxText), post(3)}, api.ErrLimit},
		{[]api.Post{post(1, 1), post(2, 1), post(3, 5, 5), post(4, api.MaxText)}, api.ErrForm},
	} {
		isChecked(t, c.list, c.want)
	}
}

// 14.1: all lists of up to three out of postings with faults and without, and of one with all places of up to three.
func TestCheckOfAll(t *testing.T) {
	var all []api.Post
	for _, doc := range []int{-1, 0, 1, 2, api.MaxDocs - 1, api.MaxDocs} {
		for _, at := range [][]int{{}, {-1}, {0}, {1, 2}, {2, 2}, {2, 1}, {api.MaxText}, {0, api.MaxText - 1}, {1, api.MaxText, 1}} {
			all = append(all, post(doc, at...))
		}
	}
	check := func(list ...api.Post) { isChecked(t, list, plainCheck(list)) }
	for _, a := range all {
		check(a)
		for _, b := range all {
			check(a, b)
			for _, c := range all {
				check(a, b, c)
			}
		}
	}
	edges := []int{-1, 0, 1, 2, 3, api.MaxText - 2, api.MaxText - 1, api.MaxText, api.MaxText + 1}
	for _, x := range edges {
		for _, y := range edges {
			for _, z := range edges {
				check(post(5, x), post(6, y, z))
				check(post(5, x, y), post(6, z))
				check(post(5, x, y, z))
			}
		}
	}
}

// noLists answers contents that are no list of numbers, in each of the ways of chapter 3, with the error of each.
func noLists(t *testing.T) map[string]api.Errno {
	all := map[string]api.Errno{
		"\xf0":                                 api.ErrShort, // half a count
		"\x07":                                 api.ErrForm,  // no number
		"\xf1\x00\x05":                         api.ErrForm,  // not in its one form
		"\x7f":                                 api.ErrForm,  // below 0
		"\xf7\xff\xff\xff\xff\xff\xff\xff\xff": api.ErrForm,  // none of 64 bits
		"\x81":                                 api.ErrShort, // no width
		"\xf0\x11\x00":                         api.ErrShort, // nor at the second block
		"\x81\x40":                             api.ErrForm,  // a width above 63
		"\x81\xff":                             api.ErrForm,  //
		"\xf0\x11\x00\x40":                     api.ErrForm,  //
		"\x81\x08":                             api.ErrShort, // a block cut short
		"\x81\x09\xff":                         api.ErrShort, //
		"\xf0\x11\x00\x01":                     api.ErrShort, //
		"\x81\x02\x01":                         api.ErrForm,  // wider than needed
		"\x81\x01\x00":                         api.ErrForm,  //
		"\xf0\x11\x00\x01\x00":                 api.ErrForm,  //
		"\x81\x01\x03":                         api.ErrForm,  // a bit of the filling
		"\xf0\x11\x00\x01\x81":                 api.ErrForm,  //
		tuple.Nums(math.MaxInt):                api.ErrShort, // very many
		tuple.Nums(math.MaxInt) + "\x00":       api.ErrShort, //
		tuple.Nums(1<<40) + "\x00\x00\x41":     api.ErrForm,  //
		tuple.Nums(1<<40) + "\x00\x02" + strings.Repeat("\x55", 32): api.ErrForm, //
		tuple.Nums(1<<40) + "\x00\x02" + strings.Repeat("\xaa", 31): api.ErrShort,
	}
	for s, want := range all {
		if _, _, e := bitpack.Read(s); e != want {
			t.Fatalf("bitpack.Read(% x): error %d, want %d", s, e, want)
		}
	}
	return all
}

// 14.3: contents that are no list of numbers, at each of the three lists; whatever is wrong with the lists ahead but for that.
func TestReadOfNoLists(t *testing.T) {
	refused(t, "", api.ErrShort)
	good := []string{"\x80", "\x81\x00", "\x82\x02\x07", "\xf0\x10\x00", "\xf0\x11\x01" + strings.Repeat("\xff", 16) + "\x01\x01"}
	for bad, want := range noLists(t) {
		refused(t, bad, want)
		for _, a := range good {
			refused(t, a+bad, want)
			for _, b := range good {
				refused(t, a+b+bad, want)
			}
			if want != api.ErrShort {
				refused(t, bad+a, want)
				refused(t, a+bad+"\x07", want)
				refused(t, a+a+bad+"\x00", want)
			}
		}
	}
	for _, a := range good {
		refused(t, a, api.ErrShort)
		for _, b := range good {
			refused(t, a+b, api.ErrShort)
		}
	}
}

// 14.3: cut short at each byte.
func TestReadOfShort(t *testing.T) {
	for _, list := range lists() {
		s := plainPack(list)
		for n := range len(s) {
			if n < 300 || len(s)-n < 300 {
				refused(t, s[:n], api.ErrShort)
			}
		}
	}
}

// 14.3: bytes that are left come behind what the lists are refused for, and ahead of what they tell.
func TestReadOfTail(t *testing.T) {
	for _, list := range lists() {
		s := plainPack(list)
		for _, behind := range []string{"\x00", "\x80", "\xff", "\x07", "x", s} {
			refused(t, s+behind, api.ErrTail)
		}
	}
	for _, s := range noPostings() {
		refused(t, s+"\x00", api.ErrTail)
		refused(t, s+s, api.ErrTail)
	}
}

// noPostings answers contents that are three lists of numbers, and not what any postings are packed as.
func noPostings() []string {
	one, two := []int{1}, []int{1, 1}
	far := api.MaxText - 1
	const most = math.MaxInt
	return []string{
		// Fewer places than are told, or more.
		packed(one, one, nil), packed(one, one, two), packed(one, []int{2}, one), packed(two, two, one), packed(two, []int{1, 2}, two),
		packed(nil, nil, one), packed(one, []int{most}, one), packed(two, []int{most, most}, one), packed(two, []int{2, most}, one),
		// The places that three tell are one, as Go adds.
		packed([]int{1, 1, 1}, []int{most, most, 3}, one), packed([]int{1, 1, 1}, []int{1, most, most}, two),
		// Fewer numbers of places than documents, or more.
		packed(one, nil, nil), packed(nil, one, nil), packed(nil, one, one), packed(one, nil, one), packed(one, two, two), packed(two, one, one),
		packed(two, one, two), packed(two, []int{2}, two), packed(one, []int{1, 0}, one), packed(nil, []int{0}, nil),
		// A posting of no place.
		packed(one, []int{0}, nil), packed(two, []int{0, 1}, one), packed(two, []int{1, 0}, one), packed([]int{0}, []int{0}, nil),
		// Documents that don't rise, or too far.
		packed([]int{1, 0}, two, two), packed([]int{0, 0}, two, two), packed([]int{1, 1, 0}, []int{1, 1, 1}, []int{1, 1, 1}),
		packed([]int{api.MaxDocs}, one, one), packed([]int{api.MaxDocs - 1, 1}, two, two), packed([]int{0, api.MaxDocs}, two, two),
		packed([]int{most}, one, one), packed([]int{1, most}, two, two), packed([]int{most, 1}, two, two),
		packed([]int{most, most, 2}, []int{1, 1, 1}, []int{1, 1, 1}), packed([]int{3, most, most}, []int{1, 1, 1}, []int{1, 1, 1}),
		packed([]int{3, most, most, 3}, []int{1, 1, 1, 1}, []int{1, 1, 1, 1}),
		// Places that don't rise, or too far.
		packed(one, []int{2}, []int{1, 0}), packed(one, []int{2}, []int{0, 0}), packed(two, []int{1, 2}, []int{1, 1, 0}),
		packed(one, one, []int{far + 1}), packed(one, []int{2}, []int{far, 1}), packed(one, []int{2}, []int{1, far}),
		packed(two, two, []int{0, far + 1}), packed(one, one, []int{most}), packed(one, []int{2}, []int{1, most}),
		packed(one, []int{3}, []int{most, most, 2}), packed(one, []int{3}, []int{2, most, most}), packed(one, []int{4}, []int{2, most, most, 3}),
		packed(one, []int{api.MaxText + 1}, append([]int{0}, slices.Repeat(one, api.MaxText)...)),
		// More documents than may be.
		packed(slices.Repeat(one, api.MaxDocs+1), slices.Repeat(one, api.MaxDocs+1), make([]int, api.MaxDocs+1)),
		packed(append([]int{0}, slices.Repeat(one, api.MaxDocs)...), slices.Repeat(one, api.MaxDocs+1), make([]int, api.MaxDocs+1)),
		// Very many numbers, which are no others' but their own.
		packed(make([]int, api.MaxDocs+200), nil, nil), packed(nil, make([]int, api.MaxDocs+200), nil), packed(nil, nil, make([]int, 2*api.MaxDocs)),
		packed(one, one, make([]int, 2*api.MaxDocs)), packed(make([]int, 2*api.MaxDocs), make([]int, 2*api.MaxDocs), make([]int, 2*api.MaxDocs)),
		packed(one, one, slices.Repeat(one, 2*api.MaxDocs)), packed(one, []int{2 * api.MaxDocs}, make([]int, 2*api.MaxDocs)),
	}
}

// 14.3: lists of numbers that are no postings.
func TestReadOfNoPostings(t *testing.T) {
	for _, s := range noPostings() {
		refused(t, s, api.ErrForm)
		if _, e := plainRead(s); e != api.ErrForm {
			t.Errorf("% .80x: error %d, if it is read posting by posting", s, e)
		}
	}
}

// 14.3: postings with a number of one of their lists changed, taken out or put in.
func TestReadOfChangedLists(t *testing.T) {
	for name, list := range map[string][]api.Post{"two": {post(3, 0, 2), post(4, 1)}, "three": {post(0, 0), post(5, 2, 4, 9), post(9, 0, 1)}, "far": {post(8, 4), post(api.MaxDocs-1, 5, api.MaxText-1)}, "row": rowOf(4, 130, 2)} {
		var all [3][]int
		left := plainPack(list)
		for kind := range all {
			numbers, size, _ := bitpack.Read(left)
			all[kind], left = numbers, left[size:]
		}
		for kind, numbers := range all {
			changed := all
			for i := range len(numbers) + 1 {
				if i < len(numbers) {
					changed[kind] = slices.Delete(slices.Clone(numbers), i, i+1)
					isRead(t, packed(changed[0], changed[1], changed[2]))
				}
				for _, n := range []int{0, 1, 2, 3, api.MaxText, api.MaxDocs, math.MaxInt} {
					changed[kind] = slices.Insert(slices.Clone(numbers), i, n)
					isRead(t, packed(changed[0], changed[1], changed[2]))
					if i < len(numbers) {
						changed[kind] = slices.Delete(changed[kind], i+1, i+2)
						isRead(t, packed(changed[0], changed[1], changed[2]))
					}
				}
			}
		}
		isRead(t, packed(all[0], all[1], all[2]))
		isPacked(t, name, list, packed(all[0], all[1], all[2]))
	}
}

// numbersOf answers all lists of up to so many numbers from 0 to 2.
func numbersOf(most int) [][]int {
	all := [][]int{nil}
	for i := 0; i < len(all) && len(all[i]) < most; i++ {
		for n := range 3 {
			all = append(all, append(slices.Clone(all[i]), n))
		}
	}
	return all
}

// 14.3, 14.5: all three lists of few small numbers.
func TestReadOfSmallLists(t *testing.T) {
	few, more := numbersOf(3), numbersOf(4)
	taken := 0
	for _, docs := range few {
		for _, counts := range few {
			for _, places := range more {
				s := packed(docs, counts, places)
				isRead(t, s)
				if list, e := posting.Read(s); e == api.OK {
					isPacked(t, "small", list, s)
					taken++
				}
			}
		}
	}
	if taken < 500 {
		t.Errorf("%d of the lists are postings", taken)
	}
}

// 14.3, 14.5: all short rows of some bytes, and what is read of them is packed as just these.
func TestReadOfAllShort(t *testing.T) {
	some := "\x00\x01\x02\x80\x81\x82"
	taken := 0
	var try func(s string)
	try = func(s string) {
		isRead(t, s)
		if list, e := posting.Read(s); e == api.OK {
			isPacked(t, "short", list, s)
			taken++
		}
		for i := range len(some) {
			if len(s) < 8 {
				try(s + some[i:i+1])
			}
		}
	}
	try("")
	for _, end := range []string{"\x81\x00\x81\x01\x01\x81", "\x81\x01\x01\x81\x01\x01\x81", "\x82\x01\x02\x82\x01\x03\x82", "\x81\x00"} {
		for a := range 256 {
			isRead(t, end+string([]byte{byte(a)}))
			for b := range 256 {
				isRead(t, end+string([]byte{byte(a), byte(b)}))
			}
		}
	}
	if taken < 4 {
		t.Errorf("%d of the rows are postings", taken)
	}
}

// 14.3, 14.5: any bit of packed postings turned, any byte taken out, put in or doubled.
func TestReadOfTurned(t *testing.T) {
	for name, list := range lists() {
		s := plainPack(list)
		if len(s) > 250 {
			continue
		}
		for i := range len(s) {
			for bit := range 8 {
				b := []byte(s)
				b[i] ^= 1 << bit
				isRead(t, string(b))
				if got, e := posting.Read(string(b)); e == api.OK && isSame(got, list) {
					t.Errorf("%s: byte %d turned, and the same postings are read", name, i)
				}
			}
			isRead(t, s[:i]+s[i+1:])
			isRead(t, s[:i]+"\x80"+s[i:])
			isRead(t, s[:i+1]+s[i:])
		}
	}
}

// heap answers how much memory there has been at most.
func heap() int {
	var now runtime.MemStats
	runtime.ReadMemStats(&now)
	return int(now.HeapSys)
}

// 14.3: few bytes that are very many zeros are refused without room for these, at each list; so each error behind them comes
// to be told.
func TestReadOfVeryMany(t *testing.T) {
	const blocks = 1 << 20
	zeros := strings.Repeat("\x00", blocks)
	full, half := tuple.Nums(blocks*api.Block)+zeros, tuple.Nums(blocks*api.Block-64)+zeros
	before := heap()
	refused(t, full+"\x80\x80", api.ErrForm)
	refused(t, "\x80"+half+"\x80x", api.ErrTail)
	refused(t, "\x81\x00\x81\x01\x01"+full, api.ErrForm)
	refused(t, "\x80\x80"+tuple.Nums(blocks*api.Block+1)+zeros, api.ErrShort)
	refused(t, "\x80\x80"+tuple.Nums(blocks*api.Block+1)+zeros+"\x01\x03", api.ErrForm)
	if now := heap(); now > before+1<<29 {
		t.Errorf("%d bytes of memory are taken, from %d on", now, before)
	}
}

// 14.3: of too many numbers each kind of block is gone over, the last one of each length.
func TestReadOfManyBlocks(t *testing.T) {
	const blocks = 9 * api.MaxDocs / 8 / api.Block
	zeros := strings.Repeat("\x00", blocks)
	for _, width := range []int{0, 1, 2, 7, 8, 9, 31, 62, 63} {
		for _, count := range []int{1, 2, 7, 8, 9, 127, 128} {
			block, _ := bitpack.Pack(slices.Repeat([]int{1<<width - 1}, count))
			block = block[len(tuple.Nums(count)):]
			ahead := strings.Repeat("\x01"+strings.Repeat("\xff", 16), count%3)
			many := tuple.Nums((blocks+count%3)*api.Block+count) + ahead + zeros
			place := (width + count) % 3
			before, behind := strings.Repeat("\x80", place), strings.Repeat("\x80", 2-place)
			refused(t, before+many+block+behind, api.ErrForm)
			refused(t, before+many+block+behind+"\x80", api.ErrTail)
			refused(t, before+many+block[:len(block)-1], api.ErrShort)
			refused(t, before+many+"\x40"+block+behind, api.ErrForm)
		}
	}
}

// dirty writes all over postings, spare room included.
func dirty(list []api.Post) {
	for _, p := range list {
		dirtyAt(p.At)
	}
	list = list[:cap(list)]
	for i := range list {
		list[i] = post(-77, -78)
	}
}

// dirtyAt writes all over places, spare room included.
func dirtyAt(at []int) {
	at = at[:cap(at)]
	for i := range at {
		at[i] = -79
	}
}

// Rules 4, 6: what Read answers is new memory, no two lists of it share any, and it is the same each time.
func TestReadAnswersNewMemory(t *testing.T) {
	for name, list := range lists() {
		s := plainPack(list)
		other, _ := posting.Read(s)
		one, _ := posting.Read(s)
		for i := range one {
			if i < 20 || i > len(one)-20 {
				at := one[i].At
				dirtyAt(at)
				one[i].At = list[i].At
				if !isSame(one, list) {
					t.Errorf("%s: other places are changed with those of posting %d", name, i)
				}
				one[i].At = append(at, 1, 2, 3)[:len(at)]
				copy(one[i].At, list[i].At)
				if !isSame(one, list) {
					t.Errorf("%s: other places are changed by more of posting %d", name, i)
				}
			}
		}
		dirty(one)
		if !isSame(other, list) {
			t.Errorf("%s: another answer is changed too: %s", name, show(other))
		}
		isPacked(t, name, list, s)
	}
}

// withRoom answers postings, all lists of which have spare room that is written on.
func withRoom(list []api.Post) []api.Post {
	other := slices.Grow(copyOf(list), 3)
	dirty(other[len(other):])
	for i, p := range other {
		other[i].At = slices.Grow(p.At, 2)
		dirtyAt(other[i].At[len(p.At):])
	}
	return other
}

// asText answers all that there is of postings, spare room included.
func asText(list []api.Post) string {
	s := ""
	for _, p := range list[:cap(list)] {
		s += fmt.Sprint(p.Doc, len(p.At), p.At[:cap(p.At)])
	}
	return fmt.Sprint(len(list), s)
}

// Rule 4: what is handed in stays as it was, and isn't kept.
func TestArgumentsStay(t *testing.T) {
	for name, list := range lists() {
		if len(list) > 200 {
			continue
		}
		some := withRoom(list)
		before := asText(some)
		posting.Check(some)
		s, _ := posting.Pack(some)
		c, _ := posting.New(some)
		for c.Next() {
			p, _ := c.Post()
			dirtyAt(p.At)
			if asText(some) != before {
				t.Fatalf("%s: the postings are changed", name)
			}
		}
		dirty(some)
		isPacked(t, name, list, s)
	}
}

// Rules 3, 5: a refused call leaves what it was given; lists without elements are one, nil or not.
func TestRefusedAndEmpty(t *testing.T) {
	bad := withRoom([]api.Post{post(1, 2), post(1, 3)})
	before := asText(bad)
	isChecked(t, bad, api.ErrForm)
	if asText(bad) != before {
		t.Errorf("the postings are changed")
	}
	for _, none := range [][]api.Post{nil, {}, make([]api.Post, 0, 4)} {
		isChecked(t, none, api.OK)
		isPacked(t, "none", none, "\x80\x80\x80")
	}
}
