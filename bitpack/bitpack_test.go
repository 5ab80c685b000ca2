package bitpack_test

import (
	"math"
	"slices"
	"strings"
	"testing"

	"gloss/api"
	"gloss/bitpack"
	"gloss/tuple"
)

// lengths are those at which a block or the form of how many there are changes, and some between.
var lengths = []int{0, 1, 2, 3, 7, 8, 9, 111, 112, 127, 128, 129, 255, 256, 257, 367, 368, 384, 400}

// packedByRow answers numbers as the chapter tells it: each block as a row of bits, each a byte of its own, in a
// width that is found by trying.
func packedByRow(list []int) string {
	out := tuple.Nums(len(list))
	for block := range slices.Chunk(list, 128) {
		width := 0
		for width < 63 && slices.Max(block)>>width != 0 {
			width++
		}
		out += blockByRow(width, block...)
	}
	return out
}

// blockByRow answers a block in a width that may be more than is needed.
func blockByRow(width int, block ...int) string {
	var row []byte
	for _, n := range block {
		for bit := range width {
			row = append(row, byte(n>>bit&1))
		}
	}
	for len(row)%8 != 0 {
		row = append(row, 0)
	}
	out := []byte{byte(width)}
	for eight := range slices.Chunk(row, 8) {
		c := byte(0)
		for i, bit := range eight {
			c |= bit << i
		}
		out = append(out, c)
	}
	return string(out)
}

// mixed answers so many numbers, each of at most so many bits.
func mixed(count, width int) []int {
	list, next := make([]int, count), uint64(count*64+width)
	for i := range list {
		next = next*6364136223846793005 + 1442695040888963407
		list[i] = int((next ^ next>>31) & (1<<width - 1))
	}
	return list
}

// lists answers lists of all lengths and widths: mixed numbers, none but the greatest, and one that is greater than the others, at each end.
func lists() [][]int {
	var all [][]int
	for _, count := range lengths {
		for width := range 64 {
			all = append(all, mixed(count, width), slices.Repeat([]int{1<<width - 1}, count))
			if count > 0 && width > 0 {
				first, last := make([]int, count), make([]int, count)
				first[0], last[count-1] = 1<<(width-1), 1<<(width-1)
				all = append(all, first, last)
			}
		}
	}
	return all
}

// packed answers the bytes of numbers that may be.
func packed(t *testing.T, list []int) string {
	t.Helper()
	s, e := bitpack.Pack(list)
	if e != api.OK {
		t.Fatalf("Pack(%d): error %d", list, e)
	}
	return s
}

// refused tells of bytes that aren't read with just this error.
func refused(t *testing.T, s string, want api.Errno) {
	t.Helper()
	if list, size, e := bitpack.Read(s); len(list) != 0 || size != 0 || e != want {
		t.Errorf("Read(% x) = %d, %d, error %d; want error %d", s, list, size, e, want)
	}
}

// isRead tells of bytes of which the first ones aren't read as these numbers.
func isRead(t *testing.T, s string, want []int, wantSize int) {
	t.Helper()
	if list, size, e := bitpack.Read(s); e != api.OK || size != wantSize || !slices.Equal(list, want) {
		t.Errorf("Read(% x) = %d, %d, error %d; want %d, %d", s, list, size, e, want, wantSize)
	}
}

// 3.1, 3.2: numbers and their bytes: the chapter's examples, and the edges.
func TestExamples(t *testing.T) {
	for _, known := range []struct {
		list []int
		s    string
	}{
		{nil, "\x80"},
		{[]int{}, "\x80"},
		{[]int{0}, "\x81\x00"},
		{[]int{0, 0, 0}, "\x83\x00"},
		{[]int{1}, "\x81\x01\x01"},
		{[]int{0, 1}, "\x82\x01\x02"},
		{[]int{1, 2, 3, 0}, "\x84\x02\x39"},
		{[]int{5, 6}, "\x82\x03\x35"},
		{[]int{1, 1, 1, 1, 1, 1, 1, 0}, "\x88\x01\x7f"},
		{[]int{1, 0, 0, 0, 0, 0, 0, 0, 1}, "\x89\x01\x01\x01"},
		{[]int{127}, "\x81\x07\x7f"},
		{[]int{128}, "\x81\x08\x80"},
		{[]int{255, 1}, "\x82\x08\xff\x01"},
		{[]int{256}, "\x81\x09\x00\x01"},
		{[]int{511, 1}, "\x82\x09\xff\x03\x00"},
		{[]int{math.MaxInt}, "\x81\x3f\xff\xff\xff\xff\xff\xff\xff\x7f"},
		{[]int{math.MaxInt, 1}, "\x82\x3f\xff\xff\xff\xff\xff\xff\xff\xff" + strings.Repeat("\x00", 8)},
		{[]int{math.MaxInt >> 1}, "\x81\x3e\xff\xff\xff\xff\xff\xff\xff\x3f"},
		{make([]int, 128), "\xf0\x10\x00"},
		{make([]int, 129), "\xf0\x11\x00\x00"},
		{append(make([]int, 128), 3), "\xf0\x11\x00\x02\x03"},
		{append(make([]int, 127), 1), "\xf0\x10\x01" + strings.Repeat("\x00", 15) + "\x80"},
		{append([]int{1}, make([]int, 128)...), "\xf0\x11\x01\x01" + strings.Repeat("\x00", 15) + "\x00"},
	} {
		if s := packed(t, known.list); s != known.s {
			t.Errorf("Pack(%d) = % x, want % x", known.list, s, known.s)
		}
		isRead(t, known.s, known.list, len(known.s))
	}
}

// 3.1: how many there are, and of each block the width and the numbers.
func TestPackIsThatOfTheRow(t *testing.T) {
	for _, list := range lists() {
		if s, want := packed(t, list), packedByRow(list); s != want {
			t.Errorf("Pack(%d) = % x, want % x", list, s, want)
		}
	}
}

// 3.1: each block has a width of its own.
func TestPackWidths(t *testing.T) {
	ones, nines := slices.Repeat([]int{1}, 128), slices.Repeat([]int{9}, 128)
	want := "\xf1\x01\x11" + "\x01" + strings.Repeat("\xff", 16) + "\x04" + strings.Repeat("\x99", 64) + "\x00" + "\x05\x1f"
	list := slices.Concat(ones, nines, make([]int, 128), []int{31})
	if s := packed(t, list); s != want {
		t.Errorf("Pack = % x, want % x", s, want)
	}
	isRead(t, want, list, len(want))
}

// 3.1: ErrInput of a number below 0, wherever it stands.
func TestPackOfNegative(t *testing.T) {
	for _, bad := range []int{-1, -2, -128, math.MinInt, math.MinInt + 1} {
		for _, count := range lengths {
			for _, place := range []int{0, count / 2, count - 1} {
				if count == 0 {
					continue
				}
				list := mixed(count, 63)
				list[place] = bad
				if s, e := bitpack.Pack(list); s != "" || e != api.ErrInput {
					t.Errorf("Pack of %d at %d of %d = % x, error %d", bad, place, count, s, e)
				}
			}
		}
	}
}

// 3.2: the error of tuple's Count comes first.
func TestReadOfNoCount(t *testing.T) {
	for _, s := range []string{
		"", "\x00", "\x07", "\xf8", "\xff\x00", "\x7f", "\x7f\x00", "\x10\x00", "\x0f", "\x0f\xff", "\x0f\xff\x00",
		"\x08\x80\x00\x00\x00\x00\x00\x00\x70", "\xf0", "\xf1", "\xf1\x01", "\xf1\x00\x05", "\xf1\x00\x05\x00",
		"\xf7\xff\xff\xff\xff\xff\xff\xff\xff", "\xf7\x7f\xff\xff\xff\xff\xff\xff\x90", "\xf7\x7f\xff",
	} {
		_, want := tuple.At(s).Count()
		if want == api.OK {
			t.Fatalf("% x is a count", s)
		}
		refused(t, s, want)
	}
	refused(t, "", api.ErrShort)
	refused(t, "\x07", api.ErrForm)
	refused(t, "\x7f\x00", api.ErrForm)
	refused(t, "\xf0", api.ErrShort)
}

// 3.2: each way of being cut short: ahead of a width, and in the numbers behind it.
func TestReadOfShort(t *testing.T) {
	for _, s := range []string{"\x81", "\x81\x01", "\x82\x08\xff", "\x81\x3f\xff\xff\xff\xff\xff\xff\xff", "\xf0\x10", "\xf0\x10\x01" + strings.Repeat("\xff", 15), "\xf0\x11\x00", "\xf0\x11\x00\x02"} {
		refused(t, s, api.ErrShort)
	}
	for _, list := range lists() {
		s := packedByRow(list)
		for n := range len(s) {
			if len(s)-n < 40 || n < 40 {
				refused(t, s[:n], api.ErrShort)
			}
		}
	}
}

// 3.2: a width above 63, ahead of how many bytes there are, in the first block and in a later one.
func TestReadOfTooWide(t *testing.T) {
	blocks := "\xf0\x11\x01" + strings.Repeat("\xff", 16)
	for width := 64; width < 256; width++ {
		for _, behind := range []string{"", "\x00", "\xff", strings.Repeat("\x00", 31) + "\x01", strings.Repeat("\xff", 40)} {
			refused(t, "\x81"+string([]byte{byte(width)})+behind, api.ErrForm)
			refused(t, blocks+string([]byte{byte(width)})+behind, api.ErrForm)
		}
	}
}

// 3.2: a width that is more than the block's numbers need, of any numbers; but first their bytes must be there.
func TestReadOfWiderThanNeeded(t *testing.T) {
	refused(t, "\x81\x02\x01", api.ErrForm)
	refused(t, "\x81\x01\x00", api.ErrForm)
	for width := 1; width <= 63; width++ {
		for _, count := range []int{1, 2, 5, 8, 127, 128} {
			for _, list := range [][]int{mixed(count, width-1), slices.Repeat([]int{1<<(width-1) - 1}, count), make([]int, count)} {
				wide := blockByRow(width, list...)
				refused(t, tuple.Nums(count)+wide, api.ErrForm)
				refused(t, tuple.Nums(count)+wide+"\xff", api.ErrForm)
				refused(t, tuple.Nums(128+count)+"\x00"+wide, api.ErrForm)
				refused(t, tuple.Nums(count)+wide[:len(wide)-1], api.ErrShort)
			}
		}
	}
}

// 3.2: each bit of the filling must be 0, in the last block; a full block has none.
func TestReadOfFilling(t *testing.T) {
	refused(t, "\x81\x01\x03", api.ErrForm)
	for _, ahead := range [][]int{nil, mixed(128, 5)} {
		for width := range 64 {
			for count := 1; count < 20; count++ {
				list := append(slices.Clone(ahead), slices.Repeat([]int{1<<width - 1}, count)...)
				s := packedByRow(list)
				for bit := count * width % 8; bit != 0 && bit < 8; bit++ {
					bad := []byte(s)
					bad[len(bad)-1] |= 1 << bit
					refused(t, string(bad), api.ErrForm)
					refused(t, string(bad)+"\x00", api.ErrForm)
				}
				isRead(t, s, list, len(s))
			}
		}
	}
}

// 3.2: of two blocks with errors the first one decides.
func TestReadBlockByBlock(t *testing.T) {
	wide := "\x02" + strings.Repeat("\x55", 32)
	refused(t, "\xf0\x11"+wide, api.ErrForm)
	refused(t, "\xf0\x11"+wide+"\x01", api.ErrForm)
	refused(t, "\xf0\x11"+wide[:32], api.ErrShort)
	refused(t, "\xf0\x11\x00", api.ErrShort)
	refused(t, "\xf0\x11\x00\x40", api.ErrForm)
	refused(t, "\xf0\x91\x00\x02"+strings.Repeat("\x55", 32), api.ErrForm)
	refused(t, "\xf0\x91\x00\x00", api.ErrShort)
	refused(t, "\xf0\x91\x00\x00\x01\x03", api.ErrForm)
}

// 3.2: few bytes that claim very many numbers are refused, without room for these.
func TestReadOfVeryMany(t *testing.T) {
	for _, count := range []int{1 << 31, 1 << 40, 1 << 62, math.MaxInt - 127, math.MaxInt - 1, math.MaxInt} {
		s := tuple.Nums(count)
		refused(t, s, api.ErrShort)
		refused(t, s+"\x01\xff", api.ErrShort)
		refused(t, s+strings.Repeat("\x00", 1<<16), api.ErrShort)
		refused(t, s+strings.Repeat("\x00", 1<<16)+"\x40", api.ErrForm)
		refused(t, s+strings.Repeat("\x00", 1<<16)+"\x01"+strings.Repeat("\x00", 16), api.ErrForm)
	}
}

// 3.4: what was packed is read back, whatever stands behind it.
func TestPackedIsRead(t *testing.T) {
	for _, list := range lists() {
		s := packed(t, list)
		for _, behind := range []string{"", "\x00", "\xff", "\x80", s} {
			isRead(t, s+behind, list, len(s))
		}
	}
	var long []int
	for width := range 64 {
		long = append(long, mixed(1+3*width, width)...)
	}
	isRead(t, packed(t, long), long, len(packed(t, long)))
}

// 3.4: what is read are just the bytes in which it is packed.
func TestReadIsPacked(t *testing.T) {
	check := func(s string) {
		list, size, e := bitpack.Read(s)
		if e != api.OK {
			refused(t, s, e)
			return
		}
		if again, e := bitpack.Pack(list); e != api.OK || again != s[:size] {
			t.Errorf("Read(% x) = %d, %d, but packed it is % x", s, list, size, again)
		}
	}
	check("")
	for a := range 256 {
		check(string([]byte{byte(a)}))
		for b := range 256 {
			check(string([]byte{byte(a), byte(b)}))
		}
	}
	for _, count := range []byte{0x80, 0x81, 0x82, 0x83, 0x84, 0x88, 0xef, 0xf0} {
		for b := range 256 {
			for c := range 256 {
				for _, behind := range []string{"", "\x00", "\x01", "\xff", "\x02\x00\x00"} {
					check(string([]byte{count, byte(b), byte(c)}) + behind)
				}
			}
		}
	}
}

// 3.4: any bit of packed numbers turned: refused, or read as others, which are packed so.
func TestTurnedBit(t *testing.T) {
	for _, list := range [][]int{{1}, {5, 6}, {1, 2, 3, 0}, mixed(20, 7), mixed(130, 3), mixed(3, 63)} {
		s := packed(t, list)
		for bit := range 8 * len(s) {
			b := []byte(s)
			b[bit/8] ^= 1 << (bit % 8)
			got, size, e := bitpack.Read(string(b))
			if e != api.OK {
				refused(t, string(b), e)
				continue
			}
			if size == len(s) && slices.Equal(got, list) || packed(t, got) != string(b[:size]) {
				t.Errorf("Read(% x) = %d, %d", b, got, size)
			}
		}
	}
}

// 3.3: each less the one ahead; each and all ahead.
func TestDeltasAndSums(t *testing.T) {
	for _, known := range []struct{ list, deltas []int }{
		{nil, nil},
		{[]int{}, []int{}},
		{[]int{0}, []int{0}},
		{[]int{7}, []int{7}},
		{[]int{-7}, []int{-7}},
		{[]int{3, 5, 5, 9}, []int{3, 2, 0, 4}},
		{[]int{9, 5, 5, 3}, []int{9, -4, 0, -2}},
		{[]int{-1, 1, -1}, []int{-1, 2, -2}},
		{[]int{math.MaxInt, math.MinInt}, []int{math.MaxInt, 1}},
		{[]int{math.MinInt, math.MaxInt}, []int{math.MinInt, -1}},
		{[]int{math.MinInt, 0, math.MinInt}, []int{math.MinInt, math.MinInt, math.MinInt}},
		{[]int{-2, math.MaxInt, -2}, []int{-2, math.MinInt + 1, math.MaxInt}},
	} {
		if got := bitpack.Deltas(known.list); !slices.Equal(got, known.deltas) {
			t.Errorf("Deltas(%d) = %d, want %d", known.list, got, known.deltas)
		}
		if got := bitpack.Sums(known.deltas); !slices.Equal(got, known.list) {
			t.Errorf("Sums(%d) = %d, want %d", known.deltas, got, known.list)
		}
	}
}

// 3.4: Sums of Deltas are the list, of any numbers; and Deltas of Sums.
func TestSumsOfDeltas(t *testing.T) {
	for _, list := range lists() {
		for i := range list {
			if i%3 == 0 {
				list[i] = ^list[i]
			}
		}
		if got := bitpack.Sums(bitpack.Deltas(list)); !slices.Equal(got, list) {
			t.Errorf("Sums(Deltas(%d)) = %d", list, got)
		}
		if got := bitpack.Deltas(bitpack.Sums(list)); !slices.Equal(got, list) {
			t.Errorf("Deltas(Sums(%d)) = %d", list, got)
		}
	}
}

// Rule 4: the lists that are handed in aren't changed, their spare room included, and none is handed out.
func TestListsAreLeft(t *testing.T) {
	want := []int{4, 9, 2, 77, 78, 79}
	list := slices.Clone(want)
	packed(t, list[:3])
	for name, call := range map[string]func([]int) []int{"Deltas": bitpack.Deltas, "Sums": bitpack.Sums} {
		got := call(list[:3])
		again := call(list[:3])
		kept := slices.Clone(again)
		got = append(got[:cap(got)], 1, 2, 3)
		for i := range got {
			got[i] = -5
		}
		if !slices.Equal(list, want) || !slices.Equal(again, kept) {
			t.Errorf("%s: the list is %d, the other answer %d", name, list, again)
		}
	}
	if !slices.Equal(list, want) {
		t.Errorf("Pack made %d of its list", list)
	}
}

// Rule 4: what Read answers is new each time.
func TestReadAnswersNewMemory(t *testing.T) {
	s := packed(t, mixed(300, 9))
	one, _, _ := bitpack.Read(s)
	two, _, _ := bitpack.Read(s)
	one = one[:cap(one)]
	for i := range one {
		one[i] = -1
	}
	if !slices.Equal(two, mixed(300, 9)) {
		t.Errorf("the second answer is %d", two)
	}
	isRead(t, s, mixed(300, 9), len(s))
}
