package figure_test

import (
	"math"
	"strconv"
	"strings"
	"testing"

	"leverman/api"
	"leverman/figure"
)

const (
	digits  = "0123456789"
	letters = "abcdefghijklmnopqrstuvwxyzABCDEFGHIJKLMNOPQRSTUVWXYZ"
)

// greatest is the greatest number that 13 digits write.
const greatest = 9999999999999

func parses(t *testing.T, s string, most, want int) {
	t.Helper()
	if n, ok := figure.Parse(s, most); !ok || n != want {
		t.Errorf("Parse(%q, %d) = %d, %t, want %d, true", s, most, n, ok, want)
	}
}

func refuses(t *testing.T, s string, most int) {
	t.Helper()
	if n, ok := figure.Parse(s, most); ok || n != 0 {
		t.Errorf("Parse(%q, %d) = %d, %t, want 0, false", s, most, n, ok)
	}
}

func named(t *testing.T, s string, want bool) {
	t.Helper()
	if got := figure.Name(s); got != want {
		t.Errorf("Name(%q) = %t, want %t", s, got, want)
	}
}

// around gives the powers of 10 and of 2 that an int holds, and the numbers beside them, from 0 on.
func around() []int {
	l := []int{0, 4070, greatest, math.MaxInt - 1, math.MaxInt}
	for n := 1; ; n *= 10 {
		l = append(l, n-1, n, n+1)
		if n > math.MaxInt/10 {
			break
		}
	}
	for bit := range 62 {
		l = append(l, 1<<bit-1, 1<<bit, 1<<bit+1)
	}
	return l
}

// P1.1: Print.

func TestPrintWritesBaseTen(t *testing.T) {
	cases := []struct {
		n    int
		want string
	}{
		{0, "0"}, {1, "1"}, {7, "7"}, {9, "9"}, {10, "10"}, {11, "11"}, {100, "100"},
		{105, "105"}, {1200, "1200"}, {4070, "4070"}, {1234567890, "1234567890"},
		{api.MaxLength, "1099511627776"}, {greatest, "9999999999999"},
		{greatest + 1, "10000000000000"}, {math.MaxInt, "9223372036854775807"},
	}
	for _, c := range cases {
		if got := figure.Print(c.n); got != c.want {
			t.Errorf("Print(%d) = %q, want %q", c.n, got, c.want)
		}
	}
}

func TestPrintOfAllSmallNumbersAndOfEdges(t *testing.T) {
	l := around()
	for n := range 20000 {
		l = append(l, n)
	}
	for _, n := range l {
		if got := figure.Print(n); got != strconv.FormatInt(int64(n), 10) {
			t.Fatalf("Print(%d) = %q", n, got)
		}
	}
}

// P1.1: Digit.

func TestDigitOfEachByte(t *testing.T) {
	for c := range 256 {
		want := c >= 48 && c <= 57
		if got := figure.Digit(byte(c)); got != want {
			t.Errorf("Digit(%d) = %t, want %t", c, got, want)
		}
	}
}

// P1.1: Parse.

func TestParseReadsTheWholeNumber(t *testing.T) {
	parses(t, "1200", 5000, 1200)
	parses(t, "7", 5000, 7)
	parses(t, "10", 5000, 10)
	parses(t, "1002003", math.MaxInt, 1002003)
	parses(t, "9876543210", math.MaxInt, 9876543210)
	for n := range 20000 {
		parses(t, strconv.Itoa(n), math.MaxInt, n)
	}
}

func TestParseOfNoughts(t *testing.T) {
	parses(t, "0", 0, 0)
	parses(t, "0", 5000, 0)
	for _, s := range []string{"00", "000", "01", "0120", "00120", "0000000000000", "0000000000001", "09"} {
		refuses(t, s, math.MaxInt)
		refuses(t, s, 5000)
	}
}

func TestParseAtTheGreatestNumberThatMayBe(t *testing.T) {
	for _, most := range []int{0, 1, 9, 10, 99, 5000, api.MaxTicks, api.MaxLength, greatest - 1} {
		parses(t, strconv.Itoa(most), most, most)
		refuses(t, strconv.Itoa(most+1), most)
		if most > 0 {
			parses(t, strconv.Itoa(most-1), most, most-1)
		}
	}
	parses(t, "9999999999999", greatest, greatest)
	refuses(t, "9999999999999", greatest-1)
	// A greater number may have fewer digits, or lesser ones, than the text of what may be at most.
	refuses(t, "900", 899)
	refuses(t, "2000", 999)
	parses(t, "999", 2000, 999)
}

func TestParseWithNothingThatMayBe(t *testing.T) {
	for _, most := range []int{-1, -5000, math.MinInt} {
		refuses(t, "0", most)
		refuses(t, "1", most)
		refuses(t, "-1", most)
		refuses(t, "9999999999999", most)
		refuses(t, "", most)
	}
}

func TestParseOfThirteenDigitsAndOneMore(t *testing.T) {
	for _, most := range []int{greatest, greatest + 1, 1 << 62, math.MaxInt} {
		parses(t, "9999999999999", most, greatest)
		parses(t, "1000000000000", most, 1000000000000)
		parses(t, "999999999999", most, 999999999999)
		refuses(t, "10000000000000", most)
		refuses(t, "99999999999999", most)
		refuses(t, "01000000000000", most)
	}
}

func TestParseOfTextsThatPassAnInt(t *testing.T) {
	refuses(t, "9223372036854775807", math.MaxInt)
	refuses(t, "9223372036854775808", math.MaxInt)
	// 2^64 and 1 more: these would be 0 and 1, were they reckoned round.
	refuses(t, "18446744073709551616", math.MaxInt)
	refuses(t, "18446744073709551617", math.MaxInt)
	for _, n := range []int{14, 20, 255, 256, 257, 269, 1 << 16, 1<<16 + 13} {
		refuses(t, strings.Repeat("1", n), math.MaxInt)
		refuses(t, strings.Repeat("0", n), math.MaxInt)
	}
}

func TestParseOfWrongTexts(t *testing.T) {
	wrong := []string{
		"", " ", "x", "-", "+", ".", "-0", "+0", "-1", "+1", "+1200", "-1200", " 1", "1 ", "1 2", "1\n", "\t1",
		"12x", "x12", "1x2", "1_000", "1,000", "1.0", "1e3", "0x1", "0b1", "0o7", "a", "ff", "1\x00", "\x001",
		"\xb1", "1\xb1", "\uff11", "\u0661", "1\u0662", "1\u00b2", "/", ":", "1/", "1:",
	}
	for _, s := range wrong {
		refuses(t, s, math.MaxInt)
		refuses(t, s, 0)
	}
}

func TestParseWithEachByteAtEachPlace(t *testing.T) {
	for _, size := range []int{1, 2, 5, 13} {
		for at := range size {
			for c := range 256 {
				b := []byte(strings.Repeat("4", size))
				b[at] = byte(c)
				number := strings.IndexByte(digits, byte(c)) >= 0 && (c != '0' || at > 0 || size == 1)
				if !number {
					refuses(t, string(b), math.MaxInt)
					continue
				}
				want, err := strconv.Atoi(string(b))
				if err != nil {
					t.Fatal(err)
				}
				parses(t, string(b), math.MaxInt, want)
			}
		}
	}
}

// P1.1: Name.

func TestNameOfOrdinaryTexts(t *testing.T) {
	for _, s := range []string{"W1", "W", "P", "p1", "abc", "ABC", "aB3", "1", "0", "007", "12345678", "Zz09"} {
		named(t, s, true)
	}
}

func TestNameOfEightBytesAndOfNine(t *testing.T) {
	named(t, "abcdefgh", true)
	named(t, "abcdefghi", false)
	for n := range 600 {
		want := n >= 1 && n <= api.MaxName
		named(t, strings.Repeat("a", n), want)
		named(t, strings.Repeat("Z", n), want)
		named(t, strings.Repeat("0", n), want)
	}
}

func TestNameOfWrongTexts(t *testing.T) {
	wrong := []string{
		"", " ", "W.1", "W.b", ".", "W ", " W", "W W", "W-1", "W_1", "_", "W\n", "W\x00", "\x00",
		"\u00e9", "W\u00e9", "\u00c4b", "\u0394", "\uff21", "\u0661", "\u00b2", "\xff", "a\xc3",
	}
	for _, s := range wrong {
		named(t, s, false)
	}
}

func TestNameWithEachByteAtEachPlace(t *testing.T) {
	for size := 1; size <= api.MaxName; size++ {
		for at := range size {
			for c := range 256 {
				b := []byte(strings.Repeat("q", size))
				b[at] = byte(c)
				named(t, string(b), strings.IndexByte(digits+letters, byte(c)) >= 0)
			}
		}
	}
}

// P1.2: there and back.

func TestNumbersAreParsedAsTheyWereWritten(t *testing.T) {
	l := around()
	for n := range 20000 {
		l = append(l, n, n*499999993)
	}
	for _, n := range l {
		s := figure.Print(n)
		if n > greatest {
			refuses(t, s, n)
			refuses(t, s, math.MaxInt)
			continue
		}
		parses(t, s, n, n)
		parses(t, s, math.MaxInt, n)
		refuses(t, s, n-1)
	}
}

func TestWhatIsParsedIsWrittenJustSo(t *testing.T) {
	const marks = "0129+-_. xeE"
	texts := []string{""}
	for at := 0; at < len(texts); at++ {
		s := texts[at]
		if n, ok := figure.Parse(s, math.MaxInt); ok && figure.Print(n) != s {
			t.Errorf("%q is parsed as %d, that is written %q", s, n, figure.Print(n))
		}
		for i := 0; i < len(marks) && len(s) < 4; i++ {
			texts = append(texts, s+marks[i:i+1])
		}
	}
}

func TestNamesTogetherAreOneUnlessTooLong(t *testing.T) {
	l := []string{
		"a", "z", "A", "Z", "0", "9", "W1", "00", "abc", "P12", "abcd", "0123", "Zebra", "abcdef", "X234567", "abcdefg",
		"abcdefgh", "12345678",
	}
	for _, a := range l {
		for _, b := range l {
			if !figure.Name(a) || !figure.Name(b) {
				t.Fatalf("%q or %q is no name", a, b)
			}
			named(t, a+b, len(a)+len(b) <= api.MaxName)
			named(t, a+"."+b, false)
		}
	}
}

func TestPiecesOfNamesAreNames(t *testing.T) {
	const name = "aZ09Bz8q"
	for from := range len(name) {
		for to := from + 1; to <= len(name); to++ {
			named(t, name[from:to], true)
		}
	}
}
