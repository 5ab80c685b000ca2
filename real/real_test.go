package real_test

import (
	"math"
	"math/big"
	"regexp"
	"slices"
	"strconv"
	"strings"
	"testing"

	"gloss/api"
	"gloss/real"
)

const (
	minus    = 1 << 63
	zero     = 0
	lessZero = minus
	one      = 0x3ff0000000000000
	infinite = 0x7ff0000000000000
	none     = 0x7ff8000000000000
)

// noNumbers are bits of what is no number: of both signs, quiet ones and others, with few and many bits.
var noNumbers = []uint64{
	none, 0x7ff0000000000001, 0x7ff0000000000002, 0x7ff4000000000000, 0x7ff7ffffffffffff, 0x7ff8000000000001, 0x7fffffffffffffff,
	minus | none, 0xfff0000000000001, 0xfff4000000000000, 0xfff7ffffffffffff, 0xfff8000000000001, 0xffffffffffffffff,
}

// above are numbers above 0 that rise: both ends of those with few bits and of the others, neighbours, and inf.
var above = []uint64{
	1, 2, 3, 0x0008000000000000, 0x000ffffffffffffe, 0x000fffffffffffff, // the least, and those with few bits
	0x0010000000000000, 0x0010000000000001, 0x001fffffffffffff, 0x0020000000000000,
	0x3f50624dd2f1a9fc, 0x3fb999999999999a, 0x3fe0000000000000, // 0.001, 0.1, 0.5
	0x3fefffffffffffff, one, 0x3ff0000000000001, 0x3ff8000000000000, 0x4000000000000000, 0x4008000000000000,
	0x41dfffffffffffff, 0x41e0000000000000, 0x426d1a94a1fffff8, 0x433fffffffffffff, 0x4340000000000000, 0x43e0000000000000,
	0x7fe0000000000000, 0x7feffffffffffffe, 0x7fefffffffffffff, infinite, // the greatest, and inf
}

var form = regexp.MustCompile(`\A-?[0-9]{1,12}(\.[0-9]{1,3})?\z`)

// places answers rows of bits: each row stands at one place, ahead of the next one.
func places() [][]uint64 {
	var rows [][]uint64
	for _, bits := range slices.Backward(above) {
		rows = append(rows, []uint64{minus | bits})
	}
	rows = append(rows, []uint64{zero, lessZero})
	for _, bits := range above {
		rows = append(rows, []uint64{bits})
	}
	return append(rows, noNumbers)
}

// placed answers all bits of places, and the place of each.
func placed() (list []uint64, place []int) {
	for i, row := range places() {
		for _, bits := range row {
			list = append(list, bits)
			place = append(place, i)
		}
	}
	return list, place
}

// isNone tells whether bits are no number.
func isNone(bits uint64) bool {
	return bits>>52&0x7ff == 0x7ff && bits<<12 != 0
}

// value answers the number that bits are, reckoned from their parts.
func value(bits uint64) *big.Float {
	exponent, portion := int(bits>>52&0x7ff), bits<<12>>12
	x := new(big.Float)
	switch exponent {
	case 0x7ff:
		return x.SetInf(bits&minus != 0)
	case 0:
		x.SetMantExp(new(big.Float).SetUint64(portion), -1074)
	default:
		x.SetMantExp(new(big.Float).SetUint64(1<<52|portion), exponent-1075)
	}
	if bits&minus != 0 {
		x.Neg(x)
	}
	return x
}

// compared answers -1, 0 or 1, as one stands ahead of another one, where it does, or behind it.
func compared(a, b uint64) int {
	switch {
	case isNone(a) && isNone(b):
		return 0
	case isNone(a):
		return 1
	case isNone(b):
		return -1
	}
	return value(a).Cmp(value(b))
}

// stands tells of two numbers that don't stand as they should, by Less, Key and Within.
func stands(t *testing.T, a, b uint64, want int) {
	if got := real.Less(a, b); got != (want < 0) {
		t.Errorf("Less(%x, %x) = %v", a, b, got)
	}
	if got := real.Less(b, a); got != (want > 0) {
		t.Errorf("Less(%x, %x) = %v", b, a, got)
	}
	i, k := real.Key(a), real.Key(b)
	if i < k != (want < 0) || i > k != (want > 0) {
		t.Errorf("Key(%x) = %x, Key(%x) = %x, want %d", a, i, b, k, want)
	}
	isWithin(t, a, b, b, want == 0)
	isWithin(t, a, a, b, want <= 0)
	isWithin(t, b, a, b, want <= 0)
}

// isWithin tells of a number that is within two others where it shouldn't be, or the other way round.
func isWithin(t *testing.T, bits, lo, hi uint64, want bool) {
	if got := real.Within(bits, lo, hi); got != want {
		t.Helper()
		t.Errorf("Within(%x, %x, %x) = %v", bits, lo, hi, got)
	}
}

// row answers so many bits, always the same, of which no rule is seen.
func row(count int) []uint64 {
	list, x := make([]uint64, count), uint64(1)
	for i := range list {
		x = x*6364136223846793005 + 1442695040888963407
		list[i] = x ^ x>>29
	}
	return list
}

// 7.1: each place against each other one, and those at one place.
func TestOrder(t *testing.T) {
	list, place := placed()
	for i, a := range list {
		for k, b := range list {
			stands(t, a, b, place[i]-place[k])
		}
	}
}

// 7.1: the edges that the chapter names, one by one.
func TestOrderAtTheEdges(t *testing.T) {
	stands(t, zero, lessZero, 0)
	stands(t, minus|1, lessZero, -1)
	stands(t, minus|1, zero, -1)
	stands(t, lessZero, 1, -1)
	stands(t, zero, 1, -1)
	stands(t, minus|infinite, 0xffefffffffffffff, -1)
	stands(t, 0x7fefffffffffffff, infinite, -1)
	stands(t, minus|infinite, infinite, -1)
	for _, bits := range noNumbers {
		stands(t, infinite, bits, -1)
		stands(t, minus|infinite, bits, -1)
		stands(t, zero, bits, -1)
		stands(t, lessZero, bits, -1)
		stands(t, none, bits, 0)
	}
}

// 7.1, 7.5: numbers of all kinds of bits, and their neighbours, stand as what they are.
func TestOrderOfAnyBits(t *testing.T) {
	list := row(3000)
	for i, a := range list {
		for _, b := range []uint64{list[(i+1)%len(list)], list[(i*7+3)%len(list)], a, a + 1, a - 1, a ^ minus, ^a, a<<12>>12 | infinite} {
			stands(t, a, b, compared(a, b))
		}
		// Those with the same exponent, with few bits, and with the first and last bits alone.
		b := a&0xfff<<52 | list[(i+1)%len(list)]>>12
		stands(t, a, b, compared(a, b))
		stands(t, a>>12, b<<12>>12, compared(a>>12, b<<12>>12))
		stands(t, a&0x8000000000000001, b&0x8000000000000001, compared(a&0x8000000000000001, b&0x8000000000000001))
	}
}

// 7.1, 7.5: along all exponents, the numbers at both ends of each, from -inf to inf.
func TestOrderOfExponents(t *testing.T) {
	var rising []uint64
	for exponent := range uint64(0x7ff) {
		for _, portion := range []uint64{0, 1, 1 << 51, 1<<52 - 2, 1<<52 - 1} {
			if bits := exponent<<52 | portion; bits != 0 {
				rising = append(rising, bits)
			}
		}
	}
	rising = append(rising, infinite)
	stands(t, zero, rising[0], -1)
	stands(t, minus|rising[0], zero, -1)
	for i, bits := range rising[1:] {
		stands(t, rising[i], bits, -1)
		stands(t, minus|bits, minus|rising[i], -1)
		stands(t, minus|bits, bits, -1)
		stands(t, minus|rising[i], bits, -1)
		stands(t, minus|bits, rising[i], -1)
	}
}

// 7.5: of two numbers just one stands ahead of the other one, or both stand at one place; as the numbers themselves do,
// where both are some.
func TestOrderIsTotal(t *testing.T) {
	list, _ := placed()
	list = append(list, row(60)...)
	for _, a := range list {
		for _, b := range list {
			x, y := math.Float64frombits(a), math.Float64frombits(b)
			if x == x && y == y && (real.Less(a, b) != (x < y) || real.Less(b, a) != (x > y) || (real.Key(a) == real.Key(b)) != (x == y)) {
				t.Errorf("%x and %x don't stand as %v and %v", a, b, x, y)
			}
			ahead, same, behind := real.Less(a, b), real.Key(a) == real.Key(b), real.Less(b, a)
			if ahead && (same || behind) || same && behind || !ahead && !same && !behind {
				t.Errorf("%x and %x: ahead %v, at one place %v, behind %v", a, b, ahead, same, behind)
			}
			for _, c := range list {
				if ahead && real.Less(b, c) && !real.Less(a, c) {
					t.Errorf("%x, %x, %x rise, the first and the last don't", a, b, c)
				}
				if !ahead && !real.Less(b, c) && real.Less(a, c) {
					t.Errorf("%x, %x, %x don't rise, the first and the last do", a, b, c)
				}
			}
		}
	}
}

// 7.2: every three, among them those of which lo stands behind hi.
func TestWithin(t *testing.T) {
	list, place := placed()
	for i, bits := range list {
		for k, lo := range list {
			for n, hi := range list {
				isWithin(t, bits, lo, hi, place[k] <= place[i] && place[i] <= place[n])
			}
		}
	}
}

// 7.2: zeros and what is no number at the ends, ends at one place, and ends the wrong way round.
func TestWithinAtTheEdges(t *testing.T) {
	for _, known := range []struct {
		bits, lo, hi uint64
		want         bool
	}{
		{zero, lessZero, lessZero, true},
		{lessZero, zero, zero, true},
		{lessZero, zero, one, true},
		{zero, minus | one, lessZero, true},
		{minus | 1, zero, one, false},
		{1, minus | one, lessZero, false},
		{one, one, one, true},
		{one, one + 1, one - 1, false},
		{one, one, one - 1, false},
		{one, one + 1, one, false},
		{one + 1, zero, one, false},
		{infinite, minus | infinite, infinite, true},
		{minus | infinite, minus | infinite, infinite, true},
		{none, minus | infinite, infinite, false},
		{none, minus | infinite, none, true},
		{none, none, none, true},
		{0xffffffffffffffff, none, 0x7ff0000000000001, true},
		{infinite, none, none, false},
		{infinite, minus | infinite, 0xfff8000000000000, true},
		{one, zero, none, true},
		{one, none, zero, false},
		{one, none, infinite, false},
		{none, none, infinite, false},
	} {
		isWithin(t, known.bits, known.lo, known.hi, known.want)
	}
}

// endsByTrying answers the ends of a list as the chapter tells them: each one is held against all others.
func endsByTrying(list []uint64) (least, most uint64, ok bool) {
	first := func(past int) uint64 {
		at := slices.IndexFunc(list, func(bits uint64) bool {
			return !slices.ContainsFunc(list, func(other uint64) bool { return compared(other, bits) == past })
		})
		return list[at]
	}
	if len(list) == 0 {
		return 0, 0, false
	}
	return first(-1), first(1), true
}

// haveEnds tells of a list that hasn't these ends.
func haveEnds(t *testing.T, list []uint64, least, most uint64, ok bool) {
	if a, b, got := real.Ends(list); a != least || b != most || got != ok {
		t.Helper()
		t.Errorf("Ends(%x) = %x, %x, %v; want %x, %x, %v", list, a, b, got, least, most, ok)
	}
}

// 7.3: lists without numbers, with one, and with several at one place.
func TestEnds(t *testing.T) {
	haveEnds(t, nil, 0, 0, false)
	haveEnds(t, []uint64{}, 0, 0, false)
	haveEnds(t, []uint64{one, none}[:0], 0, 0, false)
	list, _ := placed()
	for _, bits := range list {
		haveEnds(t, []uint64{bits}, bits, bits, true)
		haveEnds(t, []uint64{bits, bits, bits}, bits, bits, true)
	}
	// Of those at one place, the first.
	haveEnds(t, []uint64{zero, lessZero}, zero, zero, true)
	haveEnds(t, []uint64{lessZero, zero}, lessZero, lessZero, true)
	haveEnds(t, []uint64{one, lessZero, zero, one}, lessZero, one, true)
	haveEnds(t, []uint64{minus | one, zero, lessZero}, minus|one, zero, true)
	haveEnds(t, []uint64{0xffffffffffffffff, none, 0x7ff0000000000001}, 0xffffffffffffffff, 0xffffffffffffffff, true)
	haveEnds(t, []uint64{one, 0x7ff0000000000001, none}, one, 0x7ff0000000000001, true)
	haveEnds(t, []uint64{none, 0xfff8000000000000, infinite}, infinite, none, true)
	haveEnds(t, []uint64{infinite, minus | infinite, zero}, minus|infinite, infinite, true)
	haveEnds(t, []uint64{0x7fefffffffffffff, 0xffefffffffffffff}, 0xffefffffffffffff, 0x7fefffffffffffff, true)
	haveEnds(t, []uint64{minus | 1, 1, zero}, minus|1, 1, true)
}

// 7.3: all lists of up to four, and some longer ones.
func TestEndsOfAnyLists(t *testing.T) {
	bits := []uint64{lessZero, zero, minus | 1, 1, minus | one, infinite, minus | infinite, none, 0xfff0000000000001}
	check := func(list []uint64) {
		least, most, ok := endsByTrying(list)
		haveEnds(t, list, least, most, ok)
	}
	var grow func(list []uint64, more int)
	grow = func(list []uint64, more int) {
		check(list)
		for i := 0; more > 0 && i < len(bits); i++ {
			grow(append(slices.Clone(list), bits[i]), more-1)
		}
	}
	grow(nil, 4)
	all, _ := placed()
	for from := range all {
		check(slices.Concat(all[from:], all[:from]))
	}
	for _, size := range []int{5, 50, 300} {
		list := row(size)
		check(list)
		slices.Reverse(list)
		check(list)
		check(append(list, zero, lessZero, none))
	}
}

// 7.3, rule 4: the list that is handed in isn't changed, its spare room included.
func TestEndsLeavesItsList(t *testing.T) {
	whole := []uint64{one, none, minus | infinite, zero, 7, 8, 9}
	before := slices.Clone(whole)
	haveEnds(t, whole[:4], minus|infinite, none, true)
	if !slices.Equal(whole, before) {
		t.Errorf("the list is %x, was %x", whole, before)
	}
}

// reckoned answers the bits of a text as the chapter tells them.
func reckoned(s string) (uint64, api.Errno) {
	switch s {
	case "nan":
		return none, api.OK
	case "inf":
		return infinite, api.OK
	case "-inf":
		return minus | infinite, api.OK
	}
	if !form.MatchString(s) {
		return 0, api.ErrForm
	}
	x, _ := exactly(strings.TrimPrefix(s, "-")).Float64()
	if s[0] == '-' {
		return minus | math.Float64bits(x), api.OK
	}
	return math.Float64bits(x), api.OK
}

// exactly answers the number of digits and perhaps a point.
func exactly(s string) *big.Rat {
	whole, portion, _ := strings.Cut(s, ".")
	n, _ := new(big.Int).SetString(whole+portion, 10)
	return new(big.Rat).SetFrac(n, new(big.Int).Exp(big.NewInt(10), big.NewInt(int64(len(portion))), nil))
}

// isParsed tells of a text that isn't parsed as these bits.
func isParsed(t *testing.T, s string, want uint64) {
	if got, e := real.Parse(s); e != api.OK || got != want {
		t.Helper()
		t.Errorf("Parse(%q) = %x, error %d; want %x", s, got, e, want)
	}
}

// isNoNumber tells of a text that isn't refused, or beside whose error something stands.
func isNoNumber(t *testing.T, s string) {
	if got, e := real.Parse(s); e != api.ErrForm || got != 0 {
		t.Helper()
		t.Errorf("Parse(%q) = %x, error %d; want error %d", s[:min(len(s), 50)], got, e, api.ErrForm)
	}
}

// isAsReckoned tells of a text that is parsed otherwise than the chapter tells.
func isAsReckoned(t *testing.T, s string) {
	if want, e := reckoned(s); e != api.OK {
		isNoNumber(t, s)
	} else {
		isParsed(t, s, want)
	}
}

// milli answers a number of thousandths as a text.
func milli(n int) string {
	portion := strconv.Itoa(n%1000 + 1000)
	return strconv.Itoa(n/1000) + "." + portion[1:]
}

// 7.4: the chapter's examples, ordinary texts, and those at the edges, with bits written out; with a minus the sign alone
// differs.
func TestParse(t *testing.T) {
	for _, known := range []struct {
		s    string
		want uint64
	}{
		{"0", 0}, {"00", 0}, {"0.0", 0}, {"0.000", 0}, {"000000000000", 0}, {"000000000000.000", 0},
		{"1", one}, {"1.0", one}, {"1.000", one}, {"01", one}, {"001.0", one}, {"000000000001", one}, {"000000000001.000", one},
		{"1.5", 0x3ff8000000000000}, {"2.25", 0x4002000000000000}, {"0.5", 0x3fe0000000000000}, {"0.125", 0x3fc0000000000000},
		{"007", 0x401c000000000000}, {"10", 0x4024000000000000}, {"010", 0x4024000000000000}, {"0010.00", 0x4024000000000000},
		{"0.1", 0x3fb999999999999a}, {"0.10", 0x3fb999999999999a}, {"0.100", 0x3fb999999999999a}, {"00.1", 0x3fb999999999999a},
		{"0.2", 0x3fc999999999999a}, {"0.3", 0x3fd3333333333333}, {"0.7", 0x3fe6666666666666}, {"1.1", 0x3ff199999999999a},
		{"0.001", 0x3f50624dd2f1a9fc}, {"0.002", 0x3f60624dd2f1a9fc}, {"0.999", 0x3feff7ced916872b}, {"3.142", 0x400922d0e5604189},
		{"4503599627.373", 0x41f0c6f7a0b5f7cf}, {"100000000000.001", 0x42374876e8000042},
		{"123456789012.345", 0x423cbe991a145852}, {"999999999999", 0x426d1a94a1ffe000}, {"999999999999.999", 0x426d1a94a1fffff8},
		{"inf", infinite},
	} {
		isParsed(t, known.s, known.want)
		isParsed(t, "-"+known.s, minus|known.want)
	}
	isParsed(t, "nan", none)
}

// 7.4: texts that are no number.
func TestParseRefuses(t *testing.T) {
	for _, s := range []string{
		"", "-", ".", "-.", "--", "1.", "-1.", ".5", "-.5", "0.", ".0", "+1", "+0", "-+1", "+-1", "--1", "1-", "1-1",
		"1e3", "1E3", "1e", "e1", "1.5e3", "1p3", "0x1", "0x", "0b1", "0o7", "1_0", "1,5", "1.2.3", "1..2", "1.-2", "1.+2", "1/2",
		" 1", "1 ", " ", "1 2", "- 1", "1 .5", "1. 5", "\t1", "1\n", "1\x00", "\x001", "a", "a1", "1a", "1f", "x.5", "1.x", "1.5x",
		"nan ", " nan", "-nan", "+nan", "NaN", "NAN", "Nan", "na", "nann", "nan0", "nan.0", "inf ", " inf", "+inf", "--inf", "-inf ",
		"Inf", "INF", "-Inf", "in", "-in", "inff", "infinity", "-infinity", "inf.0", "0inf", "1inf", "- inf",
		"\u0661", "\uff11", "1\u00b2", "\u22121", "1\u00a0", "1.\u0665", "\xff", "1\xff", "\xff1",
		"1.2345", "0.0000", "1.0000", "1.23456", "-1.2345", "1234567890123", "-1234567890123", "0000000000000", "0000000000001",
		"1234567890123.5", "0000000000001.500", "123456789012.3456", "123456789012.", "9999999999999",
	} {
		isNoNumber(t, s)
	}
	for _, size := range []int{13, 14, 20, 64, 100, 1 << 20} {
		for _, digit := range []string{"0", "1", "9"} {
			long := strings.Repeat(digit, size)
			isNoNumber(t, long)
			isNoNumber(t, "-"+long)
			isNoNumber(t, long+".5")
			isNoNumber(t, "1."+long)
			isNoNumber(t, "0."+long)
		}
	}
}

// 7.4: every count of digits ahead of the point and behind it, with and without a point.
func TestParseCounts(t *testing.T) {
	for _, digits := range []string{"00000000000000", "10000000000000", "00000000000001", "12345678901234", "99999999999999"} {
		for whole := range len(digits) + 1 {
			for portion := -1; portion < 6; portion++ {
				s := digits[:whole]
				if portion >= 0 {
					s += "." + digits[len(digits)-portion:]
				}
				isAsReckoned(t, s)
				isAsReckoned(t, "-"+s)
				right := 1 <= whole && whole <= 12 && portion != 0 && portion <= 3
				if _, e := real.Parse(s); (e == api.OK) != right {
					t.Errorf("Parse(%q): error %d", s, e)
				}
			}
		}
	}
}

// 7.4: all short texts of digits, minus, point, and of what stands in no number but by its name.
func TestParseOfShortTexts(t *testing.T) {
	const pieces = "019-.+e ainfN"
	var grow func(s string, more int)
	grow = func(s string, more int) {
		isAsReckoned(t, s)
		for i := 0; more > 0 && i < len(pieces); i++ {
			grow(s+pieces[i:i+1], more-1)
		}
	}
	grow("", 5)
}

// 7.4: any byte at any place of a number, in the stead of another one and between two.
func TestParseOfAnyByte(t *testing.T) {
	for _, s := range []string{"0", "-12.345", "123456789012.345", "-000000000012", "999999999999.9", "nan", "inf", "-inf"} {
		for b := range 256 {
			for at := range len(s) + 1 {
				isAsReckoned(t, s[:at]+string([]byte{byte(b)})+s[at:])
				if at < len(s) {
					isAsReckoned(t, s[:at]+string([]byte{byte(b)})+s[at+1:])
				}
			}
		}
	}
}

// 7.4: every number of thousandths up to 300, in all of its texts.
func TestParseOfThousandths(t *testing.T) {
	for n := range 300000 {
		s := milli(n)
		x, err := strconv.ParseFloat(s, 64)
		if err != nil {
			t.Fatal(err)
		}
		want := math.Float64bits(x)
		for {
			isParsed(t, s, want)
			isParsed(t, "-00"+s, minus|want)
			if s[len(s)-1] != '0' {
				break
			}
			s = strings.TrimSuffix(s[:len(s)-1], ".")
			if !strings.Contains(s, ".") {
				isParsed(t, s, want)
				break
			}
		}
	}
}

// 7.4: numbers that lie next to the middle of two floats, on both of its sides, with bits written out.
func TestParseNextToTheMiddle(t *testing.T) {
	for _, known := range []struct {
		s    string
		want uint64
	}{
		{"0.043", 0x3fa604189374bc6a}, {"0.203", 0x3fc9fbe76c8b4396}, {"0.344", 0x3fd604189374bc6a}, {"0.562", 0x3fe1fbe76c8b4396},
		{"1.124", 0x3ff1fbe76c8b4396}, {"1.001", 0x3ff004189374bc6a}, {"8.117", 0x40203be76c8b4396}, {"8.008", 0x402004189374bc6a},
		{"256.119", 0x407001e76c8b4396}, {"1024.024", 0x409000189374bc6a}, {"65536.089", 0x40f000016c8b4396},
		{"1048576.076", 0x413000001374bc6a}, {"268435456.044", 0x41b00000000b4396}, {"2147483648.023", 0x41e000000000bc6a},
		{"34359738368.007", 0x4220000000000396}, {"274877906944.056", 0x4250000000000396}, {"274877906944.069", 0x425000000000046a},
		{"549755813888.112", 0x4260000000000396}, {"549755813888.013", 0x426000000000006a},
	} {
		isParsed(t, known.s, known.want)
		isParsed(t, "-"+known.s, minus|known.want)
	}
}

// 7.4: of 125 numbers that follow one another in thousandths, beside any power of two and within, some lie as near to the
// middle of two floats as any can: no float is nearer than the one that is answered.
func TestParseAnswersTheNextFloat(t *testing.T) {
	for power := 1; power < 1e15; power *= 2 {
		// Powers of two as numbers, and as thousandths.
		for _, first := range []int{power - 63, power*1000 - 63, power*1500 - 63, power*1999 - 63} {
			for n := max(0, first); n < first+130 && n < 1e15 && first < 1e15; n++ {
				isAsReckoned(t, milli(n))
				isNext(t, milli(n))
			}
		}
	}
	for n := 1e15 - 130; n < 1e15; n++ {
		isAsReckoned(t, milli(int(n)))
		isNext(t, milli(int(n)))
	}
}

// isNext tells of a text to whose number another float is nearer, or as near, than the one that is answered.
func isNext(t *testing.T, s string) {
	bits, e := real.Parse(s)
	if e != api.OK {
		t.Errorf("Parse(%q): error %d", s, e)
		return
	}
	far := func(bits uint64) *big.Rat {
		off := new(big.Rat).SetFloat64(math.Float64frombits(bits))
		return off.Abs(off.Sub(off, exactly(s)))
	}
	if here := far(bits); here.Cmp(far(bits+1)) >= 0 || bits != 0 && here.Cmp(far(bits-1)) >= 0 {
		t.Errorf("Parse(%q) = %x: another one is nearer", s, bits)
	}
}

// 7.1, 7.4: what is parsed stands in the order of the numbers.
func TestParsedInTheirOrder(t *testing.T) {
	texts := []string{
		"-inf", "-999999999999.999", "-999999999999", "-2", "-1.001", "-1", "-0.999", "-0.001", "0", "0.001", "0.01", "0.1", "0.999",
		"1", "1.001", "1.01", "1.1", "2", "10", "100000000000", "999999999999", "999999999999.999", "inf", "nan",
	}
	for i, s := range texts {
		a, e := real.Parse(s)
		if e != api.OK {
			t.Errorf("Parse(%q): error %d", s, e)
		}
		for k, other := range texts {
			b, _ := real.Parse(other)
			stands(t, a, b, i-k)
		}
	}
	a, _ := real.Parse("-0")
	b, _ := real.Parse("0.000")
	stands(t, a, b, 0)
}

// Rules 1 and 6: the same arguments have the same answers, whatever was asked between.
func TestAnswersHangOnArgumentsAlone(t *testing.T) {
	list, _ := placed()
	keys := make([]uint64, len(list))
	for i, bits := range list {
		keys[i] = real.Key(bits)
	}
	isParsed(t, "-12.5", 0xc029000000000000)
	isNoNumber(t, "12.5.")
	haveEnds(t, list, minus|infinite, none, true)
	isParsed(t, "-12.5", 0xc029000000000000)
	for i, bits := range list {
		if real.Key(bits) != keys[i] {
			t.Errorf("Key(%x) = %x, was %x", bits, real.Key(bits), keys[i])
		}
	}
}
