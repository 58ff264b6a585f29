package item_test

import (
	"math"
	"slices"
	"strconv"
	"strings"
	"testing"

	"leverman/api"
	"leverman/item"
)

const (
	ends   = "abtnr"
	marks  = "abcdefghijklmnopqrstuvwxyzABCDEFGHIJKLMNOPQRSTUVWXYZ0123456789"
	length = 1099511627776 // MaxLength, as the document tells it
	ticks  = 1000
)

// words are the kinds' first words, each at its kind's place.
var words = []string{"", "overlap", "approach", "settle", "hold", "section", "point", "join", "buffer", "signal"}

// strange are kinds that there aren't.
var strange = []int{0, -1, 10, 11, 64, 257, 1 << 32, 1<<32 + 1, math.MinInt, math.MinInt + 5, math.MaxInt}

func tip(name string, letter byte) api.Tip { return api.Tip{Name: name, Ends: letter} }

func number(kind, n int) api.Item { return api.Item{Kind: kind, N: n} }

func piece(kind int, name string, n int) api.Item { return api.Item{Kind: kind, Name: name, N: n} }

func join(a, b api.Tip) api.Item {
	return api.Item{Kind: api.LineJoin, Ends: [2]api.Tip{a, b}}
}

func buffer(a api.Tip) api.Item {
	return api.Item{Kind: api.LineBuffer, Ends: [2]api.Tip{a}}
}

func signal(name string, a api.Tip) api.Item {
	return api.Item{Kind: api.LineSignal, Name: name, Ends: [2]api.Tip{a}}
}

func parses(t *testing.T, s string, want api.Item) {
	t.Helper()
	if x, ok := item.Parse(s); !ok || x != want {
		t.Errorf("Parse(%q) = %#v, %t, want %#v, true", s, x, ok, want)
	}
}

func refuses(t *testing.T, s string) {
	t.Helper()
	if x, ok := item.Parse(s); ok || x != (api.Item{}) {
		t.Errorf("Parse(%q) = %#v, %t, want zero, false", s, x, ok)
	}
}

func prints(t *testing.T, x api.Item, want string) {
	t.Helper()
	if got := item.Print(x); got != want {
		t.Errorf("Print(%#v) = %q, want %q", x, got, want)
	}
}

func right(t *testing.T, x api.Item, want bool) {
	t.Helper()
	if got := item.Right(x); got != want {
		t.Errorf("Right(%#v) = %t, want %t", x, got, want)
	}
}

func names(t *testing.T, s string, want api.Tip) {
	t.Helper()
	if x, ok := item.Tip(s); !ok || x != want {
		t.Errorf("Tip(%q) = %#v, %t, want %#v, true", s, x, ok, want)
	}
}

func nameless(t *testing.T, s string) {
	t.Helper()
	if x, ok := item.Tip(s); ok || x != (api.Tip{}) {
		t.Errorf("Tip(%q) = %#v, %t, want zero, false", s, x, ok)
	}
}

// wrongNames are texts that aren't names, and that part no line in other words.
func wrongNames() []string {
	return []string{
		"", ".", "W.", ".W", "W.b", "W-1", "W_1", "abcdefghi", "123456789", "W\n", "\x00", "W\x7f", "\u00e9", "W\u00e9", "\xff",
		strings.Repeat("a", 264),
	}
}

// wrongNumbers are texts that aren't numbers.
func wrongNumbers() []string {
	return []string{
		"", "x", "-1", "+1", "-0", "00", "01", "0120", "1.0", "1e3", "0x1", "1_0", "1,0", "12x", "x12", "10000000000000",
		"9223372036854775807", "18446744073709551617", "9999999999999", "-5000", "\u0661", "\xff", ".", "W", "W.a",
	}
}

// some are items of each kind that may be, at the edges and between.
func some() []api.Item {
	l := []api.Item{
		join(tip("W", 'b'), tip("P", 't')), join(tip("P", 't'), tip("W", 'b')), join(tip("W", 'a'), tip("W", 'b')),
		join(tip("W", 'a'), tip("W", 'a')), join(tip("abcdefgh", 'n'), tip("12345678", 'r')),
	}
	for _, n := range []int{0, 1, 2, 9, 10, 999, ticks} {
		l = append(l, number(api.LineSettle, n), number(api.LineHold, n))
	}
	for _, n := range []int{0, 1, 2, 10, 1000, 1001, 123456789, length - 1, length} {
		l = append(l, number(api.LineOverlap, n), number(api.LineApproach, n))
	}
	for _, name := range []string{"W", "a", "Z", "0", "9", "007", "W1", "point", "section", "join", "abcdefgh", "Z2345678"} {
		for _, n := range []int{1, 2, 10, 5000, length - 1, length} {
			l = append(l, piece(api.LineSection, name, n), piece(api.LinePoint, name, n))
		}
		for i := range len(ends) {
			l = append(l, buffer(tip(name, ends[i])), signal(name, tip("T", ends[i])), signal("T", tip(name, ends[i])))
		}
	}
	return l
}

// stranger gives an item with another one's parts added where its own are zero.
func stranger(x api.Item) []api.Item {
	var l []api.Item
	if x.Name == "" {
		y := x
		y.Name = "W"
		l = append(l, y)
	}
	if x.N == 0 && x.Kind >= api.LineSection {
		y := x
		y.N = 1
		l = append(l, y)
	}
	for i, e := range x.Ends {
		if e != (api.Tip{}) {
			continue
		}
		for _, put := range []api.Tip{{Name: "W"}, {Ends: 'a'}, tip("W", 'a')} {
			y := x
			y.Ends[i] = put
			l = append(l, y)
		}
	}
	return l
}

// P3.1: Word and Kind.

func TestWordOfEachKind(t *testing.T) {
	for kind, want := range words {
		if got := item.Word(kind); got != want {
			t.Errorf("Word(%d) = %q, want %q", kind, got, want)
		}
	}
	for _, kind := range strange {
		if got := item.Word(kind); got != "" {
			t.Errorf("Word(%d) = %q, want none", kind, got)
		}
	}
}

func TestWordsStandAtTheKindsNames(t *testing.T) {
	for kind, want := range map[int]string{
		api.LineOverlap: "overlap", api.LineApproach: "approach", api.LineSettle: "settle", api.LineHold: "hold",
		api.LineSection: "section", api.LinePoint: "point", api.LineJoin: "join", api.LineBuffer: "buffer", api.LineSignal: "signal",
	} {
		if got := item.Word(kind); got != want {
			t.Errorf("Word(%d) = %q, want %q", kind, got, want)
		}
	}
}

func TestKindOfEachWord(t *testing.T) {
	for kind, s := range words {
		if got := item.Kind(s); got != kind {
			t.Errorf("Kind(%q) = %d, want %d", s, got, kind)
		}
	}
}

func TestKindOfOtherTexts(t *testing.T) {
	l := []string{"", " ", "x", "section W 5", "points", "Overlap", "OVERLAP", "Point", "train", "5", "\x00", "\xff", "\u00e9"}
	for _, s := range words[1:] {
		l = append(l, s[1:], s[:len(s)-1], s+"s", s+" ", " "+s, s+"\n", s+"\x00", s+s, strings.ToUpper(s), strings.ToUpper(s[:1])+s[1:])
	}
	for _, s := range l {
		if got := item.Kind(s); got != 0 {
			t.Errorf("Kind(%q) = %d, want 0", s, got)
		}
	}
}

// P3.1: Tip.

func TestTipNamesAnEnd(t *testing.T) {
	names(t, "W.b", tip("W", 'b'))
	names(t, "P1.t", tip("P1", 't'))
	names(t, "P1.n", tip("P1", 'n'))
	names(t, "0.r", tip("0", 'r'))
	names(t, "a.a", tip("a", 'a'))
	names(t, "abcdefgh.a", tip("abcdefgh", 'a'))
	names(t, "12345678.r", tip("12345678", 'r'))
}

func TestTipWithEachLetter(t *testing.T) {
	for c := range 256 {
		s := "P1." + string([]byte{byte(c)})
		if strings.IndexByte(ends, byte(c)) >= 0 {
			names(t, s, tip("P1", byte(c)))
			continue
		}
		nameless(t, s)
	}
}

func TestTipWithEachByteAheadOfItsLetter(t *testing.T) {
	for c := range 256 {
		s := "P" + string([]byte{byte(c)}) + "t"
		if c == '.' {
			names(t, s, tip("P", 't'))
			continue
		}
		nameless(t, s)
	}
}

func TestTipWithEachByteInItsName(t *testing.T) {
	for size := 1; size <= api.MaxName; size++ {
		for at := range size {
			for c := range 256 {
				b := []byte(strings.Repeat("q", size))
				b[at] = byte(c)
				if strings.IndexByte(marks, byte(c)) >= 0 {
					names(t, string(b)+".n", tip(string(b), 'n'))
					continue
				}
				nameless(t, string(b)+".n")
			}
		}
	}
}

func TestTipOfWrongTexts(t *testing.T) {
	wrong := []string{
		"", "a", "W", ".", ".a", "a.", "W.", "..", "..a", "W..a", ".W.a", "W.a.", "W.a.b", "W.ab", "W.aa", "W.x", "W.A", "W.T", "Wa", "W a",
		"W:a", "W.a ", " W.a", "W .a", "W. a", "W.a\n", "\nW.a", "W.1", "W.0", "abcdefghi.a", "W1.\u00e9", "\u00e9.a", "W.\xe1", "W\x00.a",
		strings.Repeat("a", 256) + ".a", strings.Repeat("a", 257) + ".a", strings.Repeat(".a", 4), "a.b a.b",
	}
	for _, s := range wrong {
		nameless(t, s)
	}
	for _, name := range wrongNames() {
		nameless(t, name+".a")
	}
}

// P3.1: Print.

func TestPrintOfEachKind(t *testing.T) {
	prints(t, number(api.LineOverlap, 3000), "overlap 3000")
	prints(t, number(api.LineApproach, 15000), "approach 15000")
	prints(t, number(api.LineSettle, 2), "settle 2")
	prints(t, number(api.LineHold, 1), "hold 1")
	prints(t, piece(api.LineSection, "W", 9000), "section W 9000")
	prints(t, piece(api.LinePoint, "P1", 8000), "point P1 8000")
	prints(t, join(tip("W", 'b'), tip("P1", 't')), "join W.b P1.t")
	prints(t, buffer(tip("V", 'a')), "buffer V.a")
	prints(t, signal("A", tip("W", 'b')), "signal A W.b")
}

func TestPrintWritesWhatTheKindsLineHasAsItIs(t *testing.T) {
	whole := api.Item{Name: "x y", N: math.MaxInt, Ends: [2]api.Tip{tip("\xff.", 0xe1), tip("", 0)}}
	for kind, want := range map[int]string{
		api.LineOverlap:  "overlap 9223372036854775807",
		api.LineApproach: "approach 9223372036854775807",
		api.LineSettle:   "settle 9223372036854775807",
		api.LineHold:     "hold 9223372036854775807",
		api.LineSection:  "section x y 9223372036854775807",
		api.LinePoint:    "point x y 9223372036854775807",
		api.LineJoin:     "join \xff..\xe1 .\x00",
		api.LineBuffer:   "buffer \xff..\xe1",
		api.LineSignal:   "signal x y \xff..\xe1",
	} {
		x := whole
		x.Kind = kind
		prints(t, x, want)
	}
}

func TestPrintOfItemsThatAreEmpty(t *testing.T) {
	for kind, want := range []string{
		"", "overlap 0", "approach 0", "settle 0", "hold 0", "section  0", "point  0", "join .\x00 .\x00", "buffer .\x00", "signal  .\x00",
	} {
		prints(t, api.Item{Kind: kind}, want)
	}
}

func TestPrintOfEachLetter(t *testing.T) {
	for c := range 256 {
		b := string([]byte{byte(c)})
		prints(t, buffer(tip("W", byte(c))), "buffer W."+b)
		prints(t, signal("A", tip("W", byte(c))), "signal A W."+b)
		prints(t, join(tip("W", byte(c)), tip("V", 'a')), "join W."+b+" V.a")
		prints(t, join(tip("V", 'a'), tip("W", byte(c))), "join V.a W."+b)
	}
}

func TestPrintOfKindsThatThereArent(t *testing.T) {
	for _, kind := range strange {
		prints(t, api.Item{Kind: kind, Name: "W", N: 5, Ends: [2]api.Tip{tip("W", 'a'), tip("W", 'b')}}, "")
	}
}

// P3.1: Right.

func TestRightOfItemsThatMayBe(t *testing.T) {
	for _, x := range some() {
		right(t, x, true)
	}
}

func TestRightOfItemsWithMoreThanTheirLineHas(t *testing.T) {
	for _, x := range some() {
		for _, y := range stranger(x) {
			right(t, y, false)
		}
	}
}

func TestRightOfNumbersBelowNought(t *testing.T) {
	for _, x := range some() {
		for _, n := range []int{-1, -5000, math.MinInt, math.MinInt + 1} {
			x.N = n
			right(t, x, false)
		}
	}
}

func TestRightOfNumbersAtTheirEdges(t *testing.T) {
	for _, n := range []int{ticks + 1, 5000, length, math.MaxInt} {
		right(t, number(api.LineSettle, n), false)
		right(t, number(api.LineHold, n), false)
	}
	for _, n := range []int{length + 1, 9999999999999, 10000000000000, 1 << 62, math.MaxInt} {
		right(t, number(api.LineOverlap, n), false)
		right(t, number(api.LineApproach, n), false)
		right(t, piece(api.LineSection, "W", n), false)
		right(t, piece(api.LinePoint, "W", n), false)
	}
	right(t, piece(api.LineSection, "W", 0), false)
	right(t, piece(api.LinePoint, "W", 0), false)
}

func TestRightOfWrongNames(t *testing.T) {
	l := append(wrongNames(), " ", "W 5", " W", "W ", "W V.b", "a b c")
	for _, name := range l {
		right(t, piece(api.LineSection, name, 5), false)
		right(t, piece(api.LinePoint, name, 5), false)
		right(t, signal(name, tip("W", 'a')), false)
		right(t, signal("A", tip(name, 'a')), false)
		right(t, buffer(tip(name, 'a')), false)
		right(t, join(tip(name, 'a'), tip("W", 'a')), false)
		right(t, join(tip("W", 'a'), tip(name, 'a')), false)
	}
}

func TestRightOfEachLetter(t *testing.T) {
	for c := range 256 {
		want := strings.IndexByte(ends, byte(c)) >= 0
		right(t, buffer(tip("W", byte(c))), want)
		right(t, signal("A", tip("W", byte(c))), want)
		right(t, join(tip("W", byte(c)), tip("V", 'a')), want)
		right(t, join(tip("V", 'a'), tip("W", byte(c))), want)
	}
}

func TestRightOfKindsThatThereArent(t *testing.T) {
	right(t, api.Item{}, false)
	for _, kind := range strange {
		right(t, api.Item{Kind: kind}, false)
		for _, x := range some() {
			x.Kind = kind
			right(t, x, false)
		}
	}
}

func TestRightOfItemsOfAnotherKind(t *testing.T) {
	right(t, piece(api.LineOverlap, "W", 5), false)
	right(t, number(api.LineSection, 5), false)
	right(t, piece(api.LineJoin, "W", 5), false)
	right(t, join(tip("W", 'a'), api.Tip{}), false)
	right(t, join(api.Tip{}, tip("W", 'a')), false)
	right(t, signal("", tip("W", 'a')), false)
	right(t, signal("A", api.Tip{}), false)
	right(t, buffer(api.Tip{}), false)
}

// P3.2: Parse.

func TestParseOfEachKind(t *testing.T) {
	parses(t, "overlap 3000", number(api.LineOverlap, 3000))
	parses(t, "approach 15000", number(api.LineApproach, 15000))
	parses(t, "settle 2", number(api.LineSettle, 2))
	parses(t, "hold 1", number(api.LineHold, 1))
	parses(t, "section W 9000", piece(api.LineSection, "W", 9000))
	parses(t, "point P1 8000", piece(api.LinePoint, "P1", 8000))
	parses(t, "join W.b P1.t", join(tip("W", 'b'), tip("P1", 't')))
	parses(t, "buffer V.a", buffer(tip("V", 'a')))
	parses(t, "signal A W.b", signal("A", tip("W", 'b')))
}

func TestParseOfNumbersAtTheirEdges(t *testing.T) {
	least := []int{0, 0, 0, 0, 0, 1, 1}
	most := []int{0, length, length, ticks, ticks, length, length}
	for kind := api.LineOverlap; kind <= api.LinePoint; kind++ {
		ahead, name := words[kind]+" ", ""
		if kind >= api.LineSection {
			ahead, name = ahead+"W ", "W"
		}
		for _, n := range []int{least[kind], least[kind] + 1, 7, 999, 1000, most[kind] - 1, most[kind]} {
			parses(t, ahead+strconv.Itoa(n), piece(kind, name, n))
		}
		for _, n := range []int{least[kind] - 1, -5, most[kind] + 1, math.MaxInt} {
			refuses(t, ahead+strconv.Itoa(n))
		}
		for _, s := range wrongNumbers() {
			refuses(t, ahead+s)
		}
	}
	refuses(t, "settle 5000")
	refuses(t, "hold 1099511627776")
}

func TestParseOfNames(t *testing.T) {
	for _, name := range []string{"W", "z", "A", "0", "007", "12345678", "abcdefgh", "section", "point", "signal", "join", "aB3"} {
		parses(t, "section "+name+" 5", piece(api.LineSection, name, 5))
		parses(t, "point "+name+" 5", piece(api.LinePoint, name, 5))
		parses(t, "signal "+name+" W.b", signal(name, tip("W", 'b')))
		parses(t, "signal A "+name+".b", signal("A", tip(name, 'b')))
		parses(t, "buffer "+name+".b", buffer(tip(name, 'b')))
		parses(t, "join "+name+".b W.a", join(tip(name, 'b'), tip("W", 'a')))
		parses(t, "join W.a "+name+".b", join(tip("W", 'a'), tip(name, 'b')))
	}
	for _, name := range append(wrongNames(), "W 1", "W X.b", " W", "W ") {
		refuses(t, "section "+name+" 5")
		refuses(t, "point "+name+" 5")
		refuses(t, "signal "+name+" W.b")
		refuses(t, "signal A "+name+".b")
		refuses(t, "buffer "+name+".b")
		refuses(t, "join "+name+".b W.a")
		refuses(t, "join W.a "+name+".b")
	}
}

func TestParseOfEachLetter(t *testing.T) {
	for c := range 256 {
		s := "W." + string([]byte{byte(c)})
		if strings.IndexByte(ends, byte(c)) < 0 {
			refuses(t, "buffer "+s)
			refuses(t, "signal A "+s)
			refuses(t, "join "+s+" V.a")
			refuses(t, "join V.a "+s)
			continue
		}
		parses(t, "buffer "+s, buffer(tip("W", byte(c))))
		parses(t, "signal A "+s, signal("A", tip("W", byte(c))))
		parses(t, "join "+s+" V.a", join(tip("W", byte(c)), tip("V", 'a')))
		parses(t, "join V.a "+s, join(tip("V", 'a'), tip("W", byte(c))))
		parses(t, "join "+s+" "+s, join(tip("W", byte(c)), tip("W", byte(c))))
	}
}

func TestParseOfTooFewOrTooManyWords(t *testing.T) {
	for _, x := range some() {
		w := strings.Split(item.Print(x), " ")
		for n := range len(w) {
			refuses(t, strings.Join(w[:n], " "))
			refuses(t, strings.Join(w[n+1:], " "))
		}
		for _, more := range []string{"5", "W", "W.a", "x", w[len(w)-1]} {
			for at := range len(w) + 1 {
				refuses(t, strings.Join(slices.Insert(slices.Clone(w), at, more), " "))
			}
		}
	}
}

func TestParseOfTheWordsOfAnotherKind(t *testing.T) {
	pieces := [][]string{{"5"}, {"W.a"}, {"W"}, {"W", "5"}, {"W.a", "V.b"}, {"W", "V.b"}, {"5", "W"}, {"W.a", "5"}, {"5", "5"}, {"W.a", "W"}}
	for kind, word := range words {
		for i, p := range pieces {
			s := strings.Join(append([]string{word}, p...), " ")
			switch {
			case kind == 0:
				refuses(t, s)
			case kind <= api.LineHold && i == 0:
				parses(t, s, number(kind, 5))
			case (kind == api.LineSection || kind == api.LinePoint) && (i == 3 || i == 8):
				parses(t, s, piece(kind, p[0], 5))
			case kind == api.LineJoin && i == 4:
				parses(t, s, join(tip("W", 'a'), tip("V", 'b')))
			case kind == api.LineBuffer && i == 1:
				parses(t, s, buffer(tip("W", 'a')))
			case kind == api.LineSignal && i == 5:
				parses(t, s, signal("W", tip("V", 'b')))
			default:
				refuses(t, s)
			}
		}
	}
}

func TestParseOfWhatStandsBetweenTheWords(t *testing.T) {
	for _, x := range some() {
		s := item.Print(x)
		for _, more := range []string{" ", "\n", "\t", "\r", "\x00", "\x7f", "\xff", "\u00a0"} {
			refuses(t, s+more)
			refuses(t, more+s)
			refuses(t, strings.Replace(s, " ", " "+more, 1))
			if more != " " {
				refuses(t, strings.Replace(s, " ", more, 1))
			}
		}
	}
}

func TestParseOfWrongTexts(t *testing.T) {
	wrong := []string{
		"", " ", "\n", "x", "5", "W.a", "section W 0", "point W 0", "section W", "section W 1 2", "section 5", "section W.a 5", "join W.b",
		"join W.b P.t Q.n", "join W P", "signal A W.x", "signal A W", "signal W.a", "signal A", "signal A1 B1 W.a", "signal A.a W.a",
		"buffer W", "buffer .a", "buffer W.a V.a", "hold", "hold x", "hold 01", "settle 1001", "overlap 1099511627777", "overlap -1",
		"Section W 5", "SECTION W 5", "sections W 5", "train W 5", "section W 5\nsection V 5", "join  W.b P.t", "# section W 5", "section W 5 #",
	}
	for _, s := range wrong {
		refuses(t, s)
	}
}

func TestParseOfLongTexts(t *testing.T) {
	long := strings.Repeat("x", 1<<16)
	for _, s := range []string{
		long, "section " + long + " 5", "section W " + strings.Repeat("1", 1<<16), "section W " + strings.Repeat("0", 1<<16), "hold " + long,
		"buffer " + long + ".a", "buffer W." + long, "signal " + long + " W.a", "section W 5" + strings.Repeat(" 5", 1<<16),
		"join" + strings.Repeat(" W.a", 1<<16), strings.Repeat(" ", 1<<16),
	} {
		refuses(t, s)
	}
}

// P3.3: there and back.

func TestItemsAreParsedAsTheyWere(t *testing.T) {
	l := some()
	if len(l) < 100 {
		t.Fatalf("%d items are few", len(l))
	}
	for _, x := range l {
		parses(t, item.Print(x), x)
	}
}

func TestWhatIsParsedIsWrittenJustSo(t *testing.T) {
	pieces := append([]string{"0", "1", "5", "1000", "1001", "01", "W", "W.a", "W.x", "abcdefgh", "abcdefgh.r", "", "1099511627776"}, words...)
	had := 0
	for _, a := range pieces {
		for _, b := range pieces {
			for _, c := range append(pieces, " ") {
				s := a + " " + b + " " + c
				if c == " " {
					s = a + " " + b
				}
				if x, ok := item.Parse(s); ok {
					had++
					prints(t, x, s)
					right(t, x, true)
				}
			}
		}
	}
	if had < 100 {
		t.Errorf("only %d texts were items", had)
	}
}

func TestAWordsKindHasThatWord(t *testing.T) {
	for kind := api.LineOverlap; kind <= api.LineSignal; kind++ {
		if got := item.Kind(item.Word(kind)); got != kind {
			t.Errorf("Kind(Word(%d)) = %d", kind, got)
		}
	}
}

func TestRightIsWhatIsParsedAsItWas(t *testing.T) {
	texts := []string{"", "W", "abcdefghi", "W 1"}
	letters := []byte{0, 'a', 'r', 'x'}
	var l []api.Tip
	for _, name := range texts {
		for _, c := range letters {
			l = append(l, tip(name, c))
		}
	}
	for kind := -1; kind <= 10; kind++ {
		for _, name := range texts {
			for _, n := range []int{0, 1, 1001, length + 1} {
				for _, a := range l {
					for _, b := range l {
						x := api.Item{Kind: kind, Name: name, N: n, Ends: [2]api.Tip{a, b}}
						back, ok := item.Parse(item.Print(x))
						right(t, x, ok && back == x)
					}
				}
			}
		}
	}
}

// Rule 4: nothing is kept from call to call.

func TestCallsHangOnTheirArgumentsAlone(t *testing.T) {
	for range 2 {
		for _, x := range some() {
			s := item.Print(x)
			refuses(t, s+" ")
			parses(t, s, x)
			right(t, x, true)
			prints(t, api.Item{}, "")
		}
	}
}
