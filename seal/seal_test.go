package seal_test

import (
	"hash/crc32"
	"math"
	"strings"
	"testing"

	"gloss/api"
	"gloss/seal"
	"gloss/tuple"
)

// contents are texts of each length at which the form of a block changes, and of bytes that mean something elsewhere.
var contents = []string{
	"", "\x00", "\x80", "\xff", "a", "gls", "gls\x02", "\x00\x00\x00\x00", "\xff\xff\xff\xff", "hello",
	strings.Repeat("a", 111), strings.Repeat("b", 112), strings.Repeat("\x00", 113),
	strings.Repeat("\xff", 367), strings.Repeat("xy", 184), strings.Repeat("z", 369),
}

// kinds are the edges and some between.
var kinds = []int{0, 1, 2, 3, 103, 127, 128, 254, 255}

// noKinds are numbers that are none, among them those whose lowest byte is a kind's.
var noKinds = []int{-1, 256, -256, 257, 258, 512, -254, 1 << 32, 1<<32 + 2, math.MinInt, math.MinInt + 2, math.MaxInt}

// sumByRow answers the checksum by a row of bits, each a byte of its own.
func sumByRow(s string) uint32 {
	var row []byte
	for i := range len(s) {
		for bit := range 8 {
			row = append(row, s[i]>>bit&1)
		}
	}
	row = append(row, make([]byte, 32)...)
	for i := range 32 {
		row[i] ^= 1
	}
	for len(row) > 32 {
		if row[0] == 1 {
			for _, place := range []int{6, 9, 10, 16, 20, 21, 22, 24, 25, 27, 28, 30, 31, 32} {
				row[place] ^= 1
			}
		}
		row = row[1:]
	}
	sum := uint32(0)
	for i, bit := range row {
		sum |= uint32(1-bit) << i
	}
	return sum
}

// withSum puts behind bytes the checksum of them, the lowest byte first.
func withSum(b string) string {
	sum := sumByRow(b)
	return b + string([]byte{byte(sum), byte(sum >> 8), byte(sum >> 16), byte(sum >> 24)})
}

// sealed answers a content sealed as of a kind that may be.
func sealed(t *testing.T, kind int, s string) string {
	t.Helper()
	b, e := seal.Seal(kind, s)
	if e != api.OK {
		t.Fatalf("Seal(%d, %q): error %d", kind, s, e)
	}
	return b
}

// refused tells of bytes that aren't opened with just this error.
func refused(t *testing.T, kind int, b string, want api.Errno) {
	t.Helper()
	if s, e := seal.Open(kind, b); s != "" || e != want {
		t.Errorf("Open(%d, %q) = %q, error %d; want error %d", kind, b, s, e, want)
	}
}

// turned answers bytes with one bit turned.
func turned(b string, bit int) string {
	out := []byte(b)
	out[bit/8] ^= 1 << (bit % 8)
	return string(out)
}

// 2.1: sums that are known.
func TestSumOfKnownTexts(t *testing.T) {
	for _, known := range []struct {
		s   string
		sum uint32
	}{
		{"", 0},
		{"\x00", 0xd202ef8d},
		{"\xff", 0xff000000},
		{"a", 0xe8b7be43},
		{"abc", 0x352441c2},
		{"\x00\x00\x00\x00", 0x2144df1c},
		{"\xff\xff\xff\xff", 0xffffffff},
		{"123456789", 0xcbf43926},
		{"The quick brown fox jumps over the lazy dog", 0x414fa339},
	} {
		if sum := seal.Sum(known.s); sum != known.sum {
			t.Errorf("Sum(%q) = %08x, want %08x", known.s, sum, known.sum)
		}
	}
}

// 2.1: every single byte, and bytes in twos: the row of bits as it is told.
func TestSumIsThatOfTheRow(t *testing.T) {
	texts := append([]string{}, contents...)
	for c := range 256 {
		b := string([]byte{byte(c)})
		texts = append(texts, b, b+b, b+"\x00", "\x00"+b, "abc"+b, b+"abcd")
	}
	for _, s := range texts {
		if sum, want := seal.Sum(s), sumByRow(s); sum != want {
			t.Errorf("Sum(%q) = %08x, want %08x", s, sum, want)
		}
	}
}

// 2.1: texts of many lengths: the usual CRC.
func TestSumIsTheUsualOne(t *testing.T) {
	b, next := []byte{}, uint32(1)
	for range 1200 {
		next = next*1664525 + 1013904223
		b = append(b, byte(next>>24))
		if sum, want := seal.Sum(string(b)), crc32.ChecksumIEEE(b); sum != want {
			t.Fatalf("Sum of %d bytes = %08x, want %08x", len(b), sum, want)
		}
	}
}

// 2.2: all bytes of the chapter's example, and of an empty content of the least and of the greatest kind.
func TestSealExamples(t *testing.T) {
	for _, known := range []struct {
		kind int
		s, b string
	}{
		{2, "hello", "\x67\x6c\x73\x02\x85hello\x65\x56\xe9\x61"},
		{0, "", "\x67\x6c\x73\x00\x80\xd2\x41\xcf\x27"},
		{255, "", "\x67\x6c\x73\xff\x80\xa0\xbc\xeb\xb4"},
	} {
		if b := sealed(t, known.kind, known.s); b != known.b {
			t.Errorf("Seal(%d, %q) = %x, want %x", known.kind, known.s, b, known.b)
		}
	}
}

// 2.2: the mark, the kind, the block, the checksum of all of them, the lowest byte first.
func TestSealIsMarkKindBlockSum(t *testing.T) {
	for kind := range 256 {
		for _, s := range contents {
			want := withSum("gls" + string([]byte{byte(kind)}) + tuple.Nums(len(s)) + s)
			if b := sealed(t, kind, s); b != want {
				t.Errorf("Seal(%d, %q) = %x, want %x", kind, s, b, want)
			}
		}
	}
}

// 2.2: ErrInput, if the kind isn't 0 to 255, whatever the content.
func TestSealOfNoKind(t *testing.T) {
	for _, kind := range noKinds {
		for _, s := range contents {
			if b, e := seal.Seal(kind, s); b != "" || e != api.ErrInput {
				t.Errorf("Seal(%d, %q) = %q, error %d", kind, s, b, e)
			}
		}
	}
}

// 2.3: ErrInput comes first, whatever the bytes.
func TestOpenOfNoKind(t *testing.T) {
	good := sealed(t, 2, "hello")
	for _, kind := range noKinds {
		for _, b := range []string{"", "g", "x", "gls", good, good[:7], good + "x", turned(good, 50)} {
			refused(t, kind, b, api.ErrInput)
		}
	}
}

// 2.3: of the first four bytes the first one that isn't there or isn't right decides.
func TestOpenOfAnotherHead(t *testing.T) {
	good := sealed(t, 2, "hello")
	for n := range 4 {
		refused(t, 2, good[:n], api.ErrShort)
		for c := range 256 {
			other := string([]byte{byte(c)})
			if other == good[n:n+1] {
				continue
			}
			refused(t, 2, good[:n]+other, api.ErrForm)
			refused(t, 2, good[:n]+other+good[n+1:], api.ErrForm)
			refused(t, 2, withSum(good[:n]+other+good[n+1:10]), api.ErrForm)
		}
	}
}

// 2.3: as of another kind, of every two.
func TestOpenAsOfAnotherKind(t *testing.T) {
	for kind := range 256 {
		b := sealed(t, kind, "hello")
		for other := range 256 {
			if other != kind {
				refused(t, other, b, api.ErrForm)
			}
		}
	}
}

// 2.3: the block's errors, though the checksum holds.
func TestOpenOfNoBlock(t *testing.T) {
	for _, bad := range []struct {
		block string
		e     api.Errno
	}{
		{"\x07", api.ErrForm},
		{"\xf8", api.ErrForm},
		{"\x7fhello", api.ErrForm},
		{"\x0f\xffhello", api.ErrForm},
		{"\xf1\x00\x05" + strings.Repeat("a", 117), api.ErrForm},
		{"\xf7\xff\xff\xff\xff\xff\xff\xff\xff", api.ErrForm},
		{"\xf7\x7f\xff\xff\xff\xff\xff\xff\x8f", api.ErrShort},
		{"\xf1", api.ErrShort},
		{"\xef", api.ErrShort},
		{"\x8ahello", api.ErrShort},
	} {
		refused(t, 2, withSum("gls\x02"+bad.block), bad.e)
	}
	refused(t, 2, "gls\x02", api.ErrShort)
	refused(t, 2, "gls\x02\xf1", api.ErrShort)
	refused(t, 2, "gls\x02\x85hell", api.ErrShort)
}

// 2.3: a block that reaches into the checksum leaves too few bytes, one that is too short too many.
func TestOpenOfAnotherLength(t *testing.T) {
	for count, want := range map[int]api.Errno{0: api.ErrTail, 4: api.ErrTail, 6: api.ErrShort, 9: api.ErrShort, 10: api.ErrShort} {
		refused(t, 2, withSum("gls\x02"+tuple.Nums(count)+"hello"), want)
	}
}

// 2.3: how many bytes are left comes ahead of what they are.
func TestOpenOfAnotherTail(t *testing.T) {
	for _, s := range contents {
		ahead := "gls\x02" + tuple.Block(s)
		for _, left := range []string{"", "\x00", "abc", "\x00\x00\x00"} {
			refused(t, 2, ahead+left, api.ErrShort)
		}
		for _, left := range []string{"abcde", "\x00\x00\x00\x00\x00", strings.Repeat("x", 300)} {
			refused(t, 2, ahead+left, api.ErrTail)
		}
		good := withSum(ahead)
		for bit := range 32 {
			refused(t, 2, turned(good, 8*len(ahead)+bit), api.ErrSum)
		}
		sum := good[len(ahead):]
		refused(t, 2, ahead+string([]byte{sum[3], sum[2], sum[1], sum[0]}), api.ErrSum)
	}
}

// 2.3: what turns in the content is a checksum that doesn't hold; what Seal doesn't write alone is opened.
func TestOpenExamples(t *testing.T) {
	good := sealed(t, 2, "hello")
	refused(t, 2, strings.Replace(good, "e", "E", 1), api.ErrSum)
	refused(t, 3, good, api.ErrForm)
	for bit := range 8 * len("hello") {
		refused(t, 2, turned(good, 8*len("gls\x02\x85")+bit), api.ErrSum)
	}
	if s, e := seal.Open(2, withSum("gls\x02\x85world")); s != "world" || e != api.OK {
		t.Errorf("Open = %q, error %d", s, e)
	}
}

// 2.4: what was sealed is opened as itself.
func TestSealedIsOpened(t *testing.T) {
	for kind := range 256 {
		for _, s := range contents {
			if x, e := seal.Open(kind, sealed(t, kind, s)); x != s || e != api.OK {
				t.Errorf("Open(%d, Seal(%d, %q)) = %q, error %d", kind, kind, s, x, e)
			}
		}
	}
	long := strings.Repeat("0123456789abcdef", 1<<12) + "end"
	if x, e := seal.Open(7, sealed(t, 7, long)); x != long || e != api.OK {
		t.Errorf("%d bytes were opened as %d, error %d", len(long), len(x), e)
	}
	twice := sealed(t, 1, sealed(t, 2, "hello"))
	if x, e := seal.Open(1, twice); x != sealed(t, 2, "hello") || e != api.OK {
		t.Errorf("sealed twice, opened once: %q, error %d", x, e)
	}
}

// 2.4: cut short anywhere, ErrShort.
func TestCutShort(t *testing.T) {
	for _, kind := range kinds {
		for _, s := range contents {
			b := sealed(t, kind, s)
			for n := range len(b) {
				refused(t, kind, b[:n], api.ErrShort)
			}
		}
	}
}

// 2.4: with bytes behind it, ErrTail; its own bytes are no others.
func TestBytesBehind(t *testing.T) {
	for _, kind := range kinds {
		for _, s := range contents {
			b := sealed(t, kind, s)
			for _, behind := range []string{"\x00", "\xff", "x", "gls", b[len(b)-4:], b} {
				refused(t, kind, b+behind, api.ErrTail)
			}
		}
	}
}

// 2.4: with any single bit turned it is refused.
func TestTurnedBit(t *testing.T) {
	for _, kind := range kinds {
		for _, s := range contents {
			b := sealed(t, kind, s)
			for bit := range 8 * len(b) {
				if x, e := seal.Open(kind, turned(b, bit)); x != "" || e == api.OK {
					t.Errorf("kind %d, %q, bit %d turned: opened as %q, error %d", kind, s, bit, x, e)
				}
			}
		}
	}
}
