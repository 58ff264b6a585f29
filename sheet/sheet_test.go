package sheet_test

import (
	"math"
	"slices"
	"strconv"
	"strings"
	"sync"
	"testing"

	"leverman/api"
	"leverman/example"
	"leverman/item"
	"leverman/sheet"
)

const length = 1099511627776 // MaxLength, as the document tells it

// station is the document's own, and stationItems what its lines are.
const station = example.Station

func stationItems() []api.Item {
	return []api.Item{
		number(api.LineOverlap, 3000), number(api.LineApproach, 15000), number(api.LineSettle, 2), number(api.LineHold, 1),
		piece(api.LineSection, "W", 9000), piece(api.LineSection, "V", 8000), piece(api.LinePoint, "P", 5000),
		piece(api.LineSection, "T", 7000), piece(api.LineSection, "U", 7000), piece(api.LinePoint, "Q", 5000),
		piece(api.LineSection, "E", 9000), piece(api.LineSection, "F", 8000),
		join(tip("V", 'b'), tip("W", 'a')), join(tip("W", 'b'), tip("P", 't')), join(tip("P", 'n'), tip("T", 'a')),
		join(tip("P", 'r'), tip("U", 'a')), join(tip("T", 'b'), tip("Q", 'n')), join(tip("U", 'b'), tip("Q", 'r')),
		join(tip("Q", 't'), tip("E", 'a')), join(tip("E", 'b'), tip("F", 'a')),
		buffer(tip("V", 'a')), buffer(tip("F", 'b')),
		signal("A", tip("W", 'b')), signal("B", tip("T", 'b')), signal("C", tip("U", 'b')), signal("D", tip("E", 'a')),
		signal("G", tip("T", 'a')), signal("H", tip("U", 'a')), signal("I", tip("V", 'b')), signal("J", tip("F", 'a')),
	}
}

func tip(name string, letter byte) api.Tip { return api.Tip{Name: name, Ends: letter} }

func number(kind, n int) api.Item { return api.Item{Kind: kind, N: n} }

func piece(kind int, name string, n int) api.Item { return api.Item{Kind: kind, Name: name, N: n} }

func join(a, b api.Tip) api.Item {
	return api.Item{Kind: api.LineJoin, Ends: [2]api.Tip{a, b}}
}

func buffer(a api.Tip) api.Item {
	return api.Item{Kind: api.LineBuffer, Ends: [2]api.Tip{a}}
}

func signal(name string, a api.Tip) api.Item {
	return api.Item{Kind: api.LineSignal, Name: name, Ends: [2]api.Tip{a}}
}

// pair is a line and the item that it is.
type pair struct {
	line string
	item api.Item
}

// pairs are lines of each kind, at the edges and between.
func pairs() []pair {
	return []pair{
		{"overlap 0", number(api.LineOverlap, 0)}, {"overlap 1099511627776", number(api.LineOverlap, length)},
		{"approach 0", number(api.LineApproach, 0)}, {"approach 1099511627776", number(api.LineApproach, length)},
		{"settle 0", number(api.LineSettle, 0)}, {"settle 1000", number(api.LineSettle, 1000)},
		{"hold 0", number(api.LineHold, 0)}, {"hold 1000", number(api.LineHold, 1000)},
		{"section W 1", piece(api.LineSection, "W", 1)},
		{"section abcdefgh 1099511627776", piece(api.LineSection, "abcdefgh", length)},
		{"point P 1", piece(api.LinePoint, "P", 1)}, {"point 12345678 1099511627776", piece(api.LinePoint, "12345678", length)},
		{"join W.a P.t", join(tip("W", 'a'), tip("P", 't'))}, {"join P.n P.r", join(tip("P", 'n'), tip("P", 'r'))},
		{"buffer W.b", buffer(tip("W", 'b'))}, {"buffer abcdefgh.n", buffer(tip("abcdefgh", 'n'))},
		{"signal A W.b", signal("A", tip("W", 'b'))}, {"signal 0 P.r", signal("0", tip("P", 'r'))},
	}
}

// badLines are lines that are no item's. None of them has a line feed.
func badLines() []string {
	return []string{
		"", " ", "x", "overlap", "overlap ", "overlap 1099511627777", "overlap -1", "overlap 01", "approach x", "approach 1099511627777",
		"settle 1001", "hold 1001", "hold 1 1", "section", "section W", "section W 0", "section W 1099511627778", "section abcdefghi 1",
		"section W 9000 ", " section W 9000", "section  W 9000", "section W 9000\r", "section\tW 9000", "Section W 9000", "section W.a 9000",
		"point P 0", "point P", "join W.b", "join W.b P.x", "join W.b P.t Q.t", "joins W.b P.t", "buffer W", "buffer W.ab", "buffer W.a W.b",
		"signal A", "signal A W", "signal A W.x", "signal A.b W.a", "signal A W.a x", "# W", "section W 9000 # W",
		"section W\x00 1", "\x00", "\xff", "section \u00e9 1", "section W 9000\u2028section V 9000", "section W 9000\v", "section W 9000\x0c",
	}
}

func parses(t *testing.T, s string, want ...api.Item) {
	t.Helper()
	l, f := sheet.Parse(s)
	if f != (api.Fault{}) || !slices.Equal(l, want) {
		t.Errorf("Parse(%q) = %#v, %#v, want %#v, no fault", s, l, f, want)
	}
}

func refuses(t *testing.T, s string, line int) {
	t.Helper()
	l, f := sheet.Parse(s)
	if f != (api.Fault{Err: api.ErrForm, Line: line}) || len(l) != 0 {
		t.Errorf("Parse(%q) = %#v, %#v, want none, ErrForm in line %d", s, l, f, line)
	}
}

func prints(t *testing.T, want string, l ...api.Item) {
	t.Helper()
	if got := sheet.Print(l); got != want {
		t.Errorf("Print(%#v) = %q, want %q", l, got, want)
	}
}

// P4.1: Parse of texts without a fault.

func TestParseOfTheStation(t *testing.T) { parses(t, station, stationItems()...) }

func TestParseOfNothing(t *testing.T) { parses(t, "") }

func TestParseOfEachLine(t *testing.T) {
	for _, p := range pairs() {
		parses(t, p.line+"\n", p.item)
	}
}

func TestParseOfTwoLines(t *testing.T) {
	for _, p := range pairs() {
		for _, q := range pairs() {
			parses(t, p.line+"\n"+q.line+"\n", p.item, q.item)
		}
	}
}

func TestParseTellsNothingOfWhatAStationMayNotHave(t *testing.T) {
	parses(t, "settle 2\nsettle 2\nsettle 3\n", number(api.LineSettle, 2), number(api.LineSettle, 2), number(api.LineSettle, 3))
	parses(t, "section W 1\npoint W 1\n", piece(api.LineSection, "W", 1), piece(api.LinePoint, "W", 1))
	parses(t, "signal A W.t\njoin X.a X.a\n", signal("A", tip("W", 't')), join(tip("X", 'a'), tip("X", 'a')))
	parses(t, "buffer W.a\nbuffer W.a\n", buffer(tip("W", 'a')), buffer(tip("W", 'a')))
}

func TestParseKeepsTheOrderOfTheLines(t *testing.T) {
	var s strings.Builder
	var want []api.Item
	for i := range 300 {
		n := i * 7 % 300
		s.WriteString("section S" + strconv.Itoa(n) + " " + strconv.Itoa(n+1) + "\n")
		want = append(want, piece(api.LineSection, "S"+strconv.Itoa(n), n+1))
	}
	parses(t, s.String(), want...)
}

// P4.1: Parse of texts with a fault.

func TestParseOfABadLineAlone(t *testing.T) {
	for _, s := range badLines() {
		refuses(t, s+"\n", 1)
		if s != "" {
			refuses(t, s, 1)
		}
	}
}

func TestParseOfABadLineAmongOthers(t *testing.T) {
	for _, s := range badLines() {
		refuses(t, s+"\nsection W 9000\n", 1)
		refuses(t, "section W 9000\n"+s+"\n", 2)
		refuses(t, "section W 9000\n"+s+"\nbuffer W.a\n", 2)
		refuses(t, "section W 9000\nbuffer W.a\n"+s+"\nbuffer W.b\n", 3)
	}
}

func TestParseTellsTheFirstBadLine(t *testing.T) {
	for _, s := range badLines() {
		refuses(t, s+"\nx\n", 1)
		refuses(t, "x\n"+s+"\n", 1)
		refuses(t, "hold 1\n"+s+"\nx\nhold 1\ny\n", 2)
		refuses(t, "hold 1\nhold 2\nx\n"+s+"\n", 3)
	}
}

func TestParseOfALineWithoutItsLineFeed(t *testing.T) {
	for _, p := range pairs() {
		refuses(t, p.line, 1)
		refuses(t, "hold 1\n"+p.line, 2)
		refuses(t, station+p.line, 31)
		refuses(t, p.line+"\n\n", 2)
		refuses(t, "\n"+p.line, 1)
		refuses(t, p.line+"\nx\n"+p.line, 2)
		refuses(t, p.line+"\n"+p.line+"\nx", 3)
	}
}

func TestParseOfTheStationCut(t *testing.T) {
	line := 1
	for i := range len(station) {
		switch {
		case i == 0 || station[i-1] == '\n':
			parses(t, station[:i], stationItems()[:line-1]...)
		default:
			refuses(t, station[:i], line)
		}
		if station[i] == '\n' {
			line++
		}
	}
}

func TestParseOfTheStationWithAByteTooMany(t *testing.T) {
	for _, c := range []string{" ", "\r", "\t", "\x00", "\xff", "+", "."} {
		for i := range len(station) + 1 {
			refuses(t, station[:i]+c+station[i:], 1+strings.Count(station[:i], "\n"))
		}
	}
}

func TestParseOfTheStationWithALineFeedTooMany(t *testing.T) {
	for i := range len(station) + 1 {
		line := 1 + strings.Count(station[:i], "\n")
		// What stands ahead of the line feed may be an item's line still: then what stands behind it isn't.
		if _, ok := item.Parse(station[strings.LastIndex(station[:i], "\n")+1 : i]); ok {
			line++
		}
		refuses(t, station[:i]+"\n"+station[i:], line)
	}
}

func TestParseOfTheStationWithALineSpoilt(t *testing.T) {
	l := strings.SplitAfter(strings.TrimSuffix(station, "\n"), "\n")
	for i := range l {
		for _, s := range badLines() {
			spoilt := slices.Clone(l)
			spoilt[i] = s + "\n"
			refuses(t, strings.Join(spoilt, "")+"\n", i+1)
		}
	}
}

func TestParseOfLongTexts(t *testing.T) {
	const most = 70000
	s := strings.Repeat("hold 1\n", most)
	want := slices.Repeat([]api.Item{number(api.LineHold, 1)}, most)
	if l, f := sheet.Parse(s); f != (api.Fault{}) || !slices.Equal(l, want) {
		t.Errorf("Parse of %d lines = %d items, %#v", most, len(l), f)
	}
	for _, tail := range []string{"x\n", "\n", "hold 1", "hold 1001\nhold 1\n"} {
		if l, f := sheet.Parse(s + tail); f != (api.Fault{Err: api.ErrForm, Line: most + 1}) || len(l) != 0 {
			t.Errorf("Parse of %d lines and %q = %d items, %#v", most, tail, len(l), f)
		}
	}
	for _, long := range []string{strings.Repeat(" ", 1<<20), strings.Repeat("x", 1<<20), strings.Repeat("hold ", 1<<18), strings.Repeat("\n", 1<<20)} {
		if l, f := sheet.Parse("hold 1\n" + long + "\n"); f != (api.Fault{Err: api.ErrForm, Line: 2}) || len(l) != 0 {
			t.Errorf("Parse of a long text = %d items, %#v", len(l), f)
		}
	}
}

// told gives what the document asks of a text: lines from the beginning on, till one is no item's, or has no line feed.
func told(s string, known []pair) ([]api.Item, api.Fault) {
	var l []api.Item
	for line := 1; s != ""; line++ {
		head, tail, ended := strings.Cut(s, "\n")
		at := slices.IndexFunc(known, func(p pair) bool { return p.line == head })
		if !ended || at < 0 {
			return nil, api.Fault{Err: api.ErrForm, Line: line}
		}
		l = append(l, known[at].item)
		s = tail
	}
	return l, api.Fault{}
}

func TestParseOfAllShortTexts(t *testing.T) {
	known := []pair{{"hold 1", number(api.LineHold, 1)}, {"buffer W.a", buffer(tip("W", 'a'))}}
	pieces := []string{"hold 1", "buffer W.a", "x", "\n", "\n\n"}
	texts := []string{""}
	for at := 0; at < len(texts); at++ {
		s := texts[at]
		want, fault := told(s, known)
		if l, f := sheet.Parse(s); f != fault || !slices.Equal(l, want) {
			t.Errorf("Parse(%q) = %#v, %#v, want %#v, %#v", s, l, f, want, fault)
		}
		for _, p := range pieces {
			if len(texts) < 20000 {
				texts = append(texts, s+p)
			}
		}
	}
}

// P4.1: Print.

func TestPrintOfTheStation(t *testing.T) { prints(t, station, stationItems()...) }

func TestPrintOfNothing(t *testing.T) {
	prints(t, "")
	if got := sheet.Print([]api.Item{}); got != "" {
		t.Errorf("Print of an empty list = %q", got)
	}
}

func TestPrintOfEachItem(t *testing.T) {
	for _, p := range pairs() {
		prints(t, p.line+"\n", p.item)
		for _, q := range pairs() {
			prints(t, p.line+"\n"+q.line+"\n", p.item, q.item)
		}
	}
}

func TestPrintOfItemsThatMayNotBe(t *testing.T) {
	prints(t, "\n", api.Item{})
	prints(t, "\n\n", api.Item{}, api.Item{Kind: 10, Name: "W", N: 1})
	prints(t, "hold 1\n\nhold 2\n", number(api.LineHold, 1), api.Item{}, number(api.LineHold, 2))
	prints(t, "section  0\n", piece(api.LineSection, "", 0))
	prints(t, "section a b 9223372036854775807\n", piece(api.LineSection, "a b", math.MaxInt))
	prints(t, "settle 1001\nbuffer W\u00e9.x\n", number(api.LineSettle, 1001), buffer(tip("W\u00e9", 'x')))
	prints(t, "hold 3\n", api.Item{Kind: api.LineHold, N: 3, Name: "W", Ends: [2]api.Tip{tip("W", 'a'), tip("W", 'b')}})
	prints(t, "signal \n W.\xff\n", signal("\n", tip("W", 255)))
}

// P4.2: there and back.

func TestItemsAreParsedAsTheyWere(t *testing.T) {
	var l []api.Item
	for i := range 2000 {
		p := pairs()[i*i%len(pairs())]
		l = append(l, p.item)
		if i%50 == 0 {
			parses(t, sheet.Print(l), l...)
		}
	}
	parses(t, sheet.Print(stationItems()), stationItems()...)
	parses(t, sheet.Print(nil))
}

func TestWhatIsParsedIsWrittenJustSo(t *testing.T) {
	checks := 0
	spoil := func(s string) {
		l, f := sheet.Parse(s)
		if f != (api.Fault{}) {
			return
		}
		checks++
		if got := sheet.Print(l); got != s {
			t.Errorf("Print(Parse(%q)) = %q", s, got)
		}
	}
	spoil("")
	spoil(station)
	for i := range len(station) {
		spoil(station[:i])
		spoil(station[i:])
		spoil(station[:i] + station[i+1:])
		for _, c := range "\n 019abtnrPWZ.-+x\u00e9" {
			spoil(station[:i] + string(c) + station[i+1:])
			spoil(station[:i] + string(c) + station[i:])
		}
	}
	if checks < 1000 {
		t.Errorf("only %d of the texts are of the form", checks)
	}
}

func TestItemsThatMayNotBeArentParsedAsTheyWere(t *testing.T) {
	for _, x := range []api.Item{
		{}, number(api.LineSettle, 1001), number(api.LineOverlap, length+1), piece(api.LineSection, "W", 0), piece(api.LinePoint, "P.t", 1),
		buffer(tip("W", 'x')), signal("", tip("W", 'a')), join(tip("W", 'a'), api.Tip{}),
	} {
		refuses(t, sheet.Print([]api.Item{number(api.LineHold, 1), x, number(api.LineHold, 1)}), 2)
	}
}

// What is handed in isn't changed, nothing is kept, and many may call at once.

func TestPrintChangesNothing(t *testing.T) {
	room := slices.Repeat([]api.Item{piece(api.LinePoint, "Z", 7)}, 40)
	copy(room, stationItems())
	was := slices.Clone(room)
	if got := sheet.Print(room[:30]); got != station {
		t.Errorf("Print = %q, want %q", got, station)
	}
	if !slices.Equal(room, was) {
		t.Errorf("Print changed its list, or its spare room: %#v", room)
	}
}

func TestAnswersShareNoList(t *testing.T) {
	a, _ := sheet.Parse(station)
	b, _ := sheet.Parse(station)
	clear(a)
	a = append(a[:0], slices.Repeat([]api.Item{number(api.LineHold, 9)}, cap(a))...)
	if !slices.Equal(b, stationItems()) {
		t.Errorf("Parse answered memory that it answers again: %#v, beside %d", b, len(a))
	}
	parses(t, station, stationItems()...)
}

func TestCallsHangOnTheirArgumentsAlone(t *testing.T) {
	var all sync.WaitGroup
	for range 8 {
		all.Go(func() {
			for range 20 {
				parses(t, station, stationItems()...)
				refuses(t, station+"settle 1001\n", 31)
				refuses(t, station[1:], 1)
				parses(t, "")
				prints(t, station, stationItems()...)
			}
		})
	}
	all.Wait()
}
