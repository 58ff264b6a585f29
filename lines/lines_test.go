package lines_test

import (
	"slices"
	"strings"
	"testing"

	"leverman/lines"
)

const most = 1 << 16

// texts gives all texts of up to longest of the marks, the empty one among them.
func texts(marks string, longest int) []string {
	l := []string{""}
	for at := 0; at < len(l); at++ {
		for i := 0; i < len(marks) && len(l[at]) < longest; i++ {
			l = append(l, l[at]+marks[i:i+1])
		}
	}
	return l
}

// lists gives all lists of up to longest of the pieces, the empty one among them.
func lists(pieces []string, longest int) [][]string {
	l := [][]string{nil}
	for at := 0; at < len(l); at++ {
		for i := 0; i < len(pieces) && len(l[at]) < longest; i++ {
			l = append(l, append(slices.Clone(l[at]), pieces[i]))
		}
	}
	return l
}

func splits(t *testing.T, s string, whole bool, want ...string) {
	t.Helper()
	l, ok := lines.Split(s)
	if ok != whole || !slices.Equal(l, want) {
		t.Errorf("Split(%q) = %q, %t, want %q, %t", s, l, ok, want, whole)
	}
}

func spells(t *testing.T, want string, l ...string) {
	t.Helper()
	if got := lines.Text(l); got != want {
		t.Errorf("Text(%q) = %q, want %q", l, got, want)
	}
}

func words(t *testing.T, s string, want ...string) {
	t.Helper()
	l, ok := lines.Words(s)
	if !ok || !slices.Equal(l, want) {
		t.Errorf("Words(%q) = %q, %t, want %q, true", s, l, ok, want)
	}
}

func wordless(t *testing.T, s string) {
	t.Helper()
	if l, ok := lines.Words(s); ok || len(l) != 0 {
		t.Errorf("Words(%q) = %q, %t, want none, false", s, l, ok)
	}
}

func joins(t *testing.T, want string, l ...string) {
	t.Helper()
	if got := lines.Line(l); got != want {
		t.Errorf("Line(%q) = %q, want %q", l, got, want)
	}
}

// P2.1: Split.

func TestSplitOfWholeLines(t *testing.T) {
	splits(t, "one\n", true, "one")
	splits(t, "one\ntwo\n", true, "one", "two")
	splits(t, "section W 9000\npoint P 5000\njoin W.b P.t\n", true, "section W 9000", "point P 5000", "join W.b P.t")
}

func TestSplitOfWhatStandsBehindTheLastLineFeed(t *testing.T) {
	splits(t, "one", false, "one")
	splits(t, "one\ntwo", false, "one", "two")
	splits(t, "\none", false, "", "one")
	splits(t, "\n\none", false, "", "", "one")
	splits(t, "one\n ", false, "one", " ")
	splits(t, "one\n\x00", false, "one", "\x00")
}

func TestSplitOfNothing(t *testing.T) { splits(t, "", true) }

func TestSplitOfEmptyLines(t *testing.T) {
	splits(t, "\n", true, "")
	splits(t, "\n\n", true, "", "")
	splits(t, "\n\nx\n", true, "", "", "x")
	splits(t, "x\n\n", true, "x", "")
	splits(t, "x\n\n\ny\n", true, "x", "", "", "y")
	splits(t, "x\n\ny", false, "x", "", "y")
}

func TestSplitAtLineFeedsAlone(t *testing.T) {
	for c := range 256 {
		s := "a" + string([]byte{byte(c)}) + "b"
		if c == 10 {
			splits(t, s+"\n", true, "a", "b")
			splits(t, s, false, "a", "b")
			continue
		}
		splits(t, s+"\n", true, s)
		splits(t, s, false, s)
		splits(t, s[1:2]+"\n", true, s[1:2])
		splits(t, s[1:2], false, s[1:2])
	}
	splits(t, "a\r\nb\r\n", true, "a\r", "b\r")
	splits(t, "\u2028\u0085\n", true, "\u2028\u0085")
	splits(t, " a  b \n", true, " a  b ")
}

func TestSplitOfAllShortTexts(t *testing.T) {
	for _, s := range texts("\n a\xff", 6) {
		var want []string
		rest := s
		for at := strings.IndexByte(rest, 10); at >= 0; at = strings.IndexByte(rest, 10) {
			want = append(want, rest[:at])
			rest = rest[at+1:]
		}
		if rest != "" {
			want = append(want, rest)
		}
		splits(t, s, rest == "", want...)
	}
}

func TestSplitOfLongTexts(t *testing.T) {
	long := strings.Repeat("x", most)
	splits(t, long, false, long)
	splits(t, long+"\n", true, long)
	splits(t, long+"\n"+long, false, long, long)
	l, ok := lines.Split(strings.Repeat("\n", most))
	if !ok || len(l) != most || slices.Max(l) != "" {
		t.Errorf("%d line feeds are %d lines, %t", most, len(l), ok)
	}
	l, ok = lines.Split(strings.Repeat("ab\n", most) + "c")
	if ok || len(l) != most+1 || l[0] != "ab" || l[most-1] != "ab" || l[most] != "c" {
		t.Errorf("%d lines and one more are %d lines, %t", most, len(l), ok)
	}
}

// P2.1: Text.

func TestTextPutsALineFeedBehindEachLine(t *testing.T) {
	spells(t, "one\n", "one")
	spells(t, "one\ntwo\n", "one", "two")
	spells(t, "overlap 3000\nsettle 2\nhold 1\n", "overlap 3000", "settle 2", "hold 1")
}

func TestTextOfNothing(t *testing.T) {
	spells(t, "")
	spells(t, "", []string{}...)
	spells(t, "", make([]string, 0, 5)...)
}

func TestTextOfEmptyLines(t *testing.T) {
	spells(t, "\n", "")
	spells(t, "\n\n", "", "")
	spells(t, "\nx\n\n", "", "x", "")
}

func TestTextOfAnyBytes(t *testing.T) {
	spells(t, "a b \n\xff\x00\n\u00e9\n\r\n", "a b ", "\xff\x00", "\u00e9", "\r")
	spells(t, "\n\n", "\n")
	spells(t, "a\nb\nc\n", "a\nb", "c")
	spells(t, "a\n\nb\n", "a\n", "b")
}

// P2.1: Words.

func TestWordsOfALine(t *testing.T) {
	words(t, "join W.b P.t", "join", "W.b", "P.t")
	words(t, "overlap 3000", "overlap", "3000")
	words(t, "x", "x")
	words(t, "buffer", "buffer")
	words(t, "a b c d e f", "a", "b", "c", "d", "e", "f")
	words(t, "! ~ \"'` {}", "!", "~", "\"'`", "{}")
}

func TestWordsOfWrongTexts(t *testing.T) {
	wrong := []string{
		"", " ", "  ", "   ", " a", "a ", "  a", "a  ", " a ", "a  b", "join  W.b", "a b ", " a b", "a b  c", "a  b c",
		"\n", "a\n", "\na", "a\nb", "a \n", "\t", "a\tb", "a\t", "a\r", "a\vb", "a\fb", "\x00", "a\x00b", "\x1f", "\x7f",
		"a\x7f", "a \x7f", "\x80", "\xff", "a \xff", "a\xa0b", "\u00a0", "a\u00a0b", "\u3000", "\u00e9", "a \u00e9", "\u0394",
	}
	for _, s := range wrong {
		wordless(t, s)
	}
}

func TestWordsWithEachByteAtEachPlace(t *testing.T) {
	for c := range 256 {
		b := string([]byte{byte(c)})
		if c == 32 {
			words(t, "ab"+b+"cd", "ab", "cd")
			continue
		}
		if c < 33 || c > 126 {
			for _, s := range []string{b, b + "x", "x" + b, "x" + b + "y", "x " + b, b + " x", "x " + b + " y", "x y" + b} {
				wordless(t, s)
			}
			continue
		}
		words(t, b, b)
		words(t, b+"x", b+"x")
		words(t, "x"+b, "x"+b)
		words(t, "x"+b+"y", "x"+b+"y")
		words(t, b+" x", b, "x")
		words(t, "x "+b, "x", b)
		words(t, "x "+b+" y", "x", b, "y")
		words(t, b+" "+b, b, b)
	}
}

func TestWordsOfAllShortTexts(t *testing.T) {
	for _, s := range texts(" !~\x7f\n", 6) {
		want := strings.Split(s, " ")
		if strings.ContainsAny(s, "\x7f\n") || slices.Contains(want, "") {
			wordless(t, s)
			continue
		}
		words(t, s, want...)
	}
}

func TestWordsOfLongTexts(t *testing.T) {
	long := strings.Repeat("x", most)
	words(t, long, long)
	words(t, long+" "+long, long, long)
	wordless(t, long+" ")
	wordless(t, long+"\n")
	wordless(t, strings.Repeat(" ", most))
	pairs := strings.Repeat("ab ", most)
	wordless(t, pairs)
	wordless(t, pairs+" c")
	l, ok := lines.Words(pairs + "c")
	if !ok || len(l) != most+1 || l[0] != "ab" || l[most-1] != "ab" || l[most] != "c" {
		t.Errorf("%d words and one more are %d words, %t", most, len(l), ok)
	}
}

// P2.1: Line.

func TestLinePartsWordsByOneBlank(t *testing.T) {
	joins(t, "join W.b P.t", "join", "W.b", "P.t")
	joins(t, "a b", "a", "b")
	joins(t, "x", "x")
}

func TestLineOfNothing(t *testing.T) {
	joins(t, "")
	joins(t, "", []string{}...)
	joins(t, "", make([]string, 0, 5)...)
}

func TestLineOfAnyTexts(t *testing.T) {
	joins(t, "", "")
	joins(t, " ", "", "")
	joins(t, "a ", "a", "")
	joins(t, " a", "", "a")
	joins(t, "a   b", "a", " ", "b")
	joins(t, "a\n \xff \u00e9", "a\n", "\xff", "\u00e9")
}

// P2.2: there and back.

func TestLinesPutTogetherAreTakenApart(t *testing.T) {
	for _, l := range lists([]string{"", "a", " ", "a b", "\r", "\xff\x00", "settle 2"}, 4) {
		splits(t, lines.Text(l), true, l...)
	}
}

func TestTextsTakenApartArePutTogether(t *testing.T) {
	for _, s := range texts("\n a\xff", 6) {
		l, whole := lines.Split(s)
		want := s
		if !whole {
			want += "\n"
		}
		spells(t, want, l...)
	}
}

func TestWordsPutTogetherAreTakenApart(t *testing.T) {
	for _, l := range lists([]string{"a", "W.b", "!", "~~", "0", "section"}, 4) {
		if len(l) == 0 {
			wordless(t, lines.Line(l))
			continue
		}
		words(t, lines.Line(l), l...)
	}
}

func TestLinesTakenApartArePutTogether(t *testing.T) {
	had := 0
	for _, s := range texts(" !~\x7f\n", 6) {
		if l, ok := lines.Words(s); ok {
			had++
			joins(t, s, l...)
		}
	}
	if had == 0 {
		t.Error("no text had words")
	}
}

func TestAStationIsTakenApartAsItWas(t *testing.T) {
	station := [][]string{
		{"overlap", "3000"}, {"section", "W", "9000"}, {"point", "P", "5000"}, {"join", "W.b", "P.t"}, {"signal", "A", "W.b"},
	}
	var l []string
	for _, w := range station {
		l = append(l, lines.Line(w))
	}
	back, whole := lines.Split(lines.Text(l))
	if !whole || len(back) != len(station) {
		t.Fatalf("%d lines came back as %q, %t", len(station), back, whole)
	}
	for i, s := range back {
		words(t, s, station[i]...)
	}
}

// Rule 3: what is handed in stays as it was, its spare room too; what is answered is never changed afterwards.

func TestWhatIsHandedInStaysAsItWas(t *testing.T) {
	room := []string{"one", "", "two", "spare", ""}
	kept := slices.Clone(room)
	lines.Text(room[:3])
	lines.Line(room[:3])
	lines.Text(room[:0])
	lines.Line(room[:0])
	if !slices.Equal(room, kept) {
		t.Errorf("%q was changed to %q", kept, room)
	}
}

func TestAnswersStandAlone(t *testing.T) {
	for _, s := range []string{"a\nb\n", "a\nb"} {
		first, _ := lines.Split(s)
		second, _ := lines.Split(s)
		clear(append(first, "c"))
		clear(first)
		if !slices.Equal(second, []string{"a", "b"}) {
			t.Errorf("Split(%q): an answer was changed to %q", s, second)
		}
		splits(t, s, s == "a\nb\n", "a", "b")
	}
	first, _ := lines.Words("a b")
	second, _ := lines.Words("a b")
	clear(first)
	if !slices.Equal(second, []string{"a", "b"}) {
		t.Errorf("Words: an answer was changed to %q", second)
	}
	words(t, "a b", "a", "b")
}
