package plan_test

import (
	"maps"
	"math"
	"math/rand"
	"slices"
	"strconv"
	"strings"
	"sync"
	"testing"

	"leverman/api"
	"leverman/example"
	"leverman/item"
	"leverman/plan"
	"leverman/sheet"
)

const length = 1099511627776 // MaxLength, as the document tells it

// station is the document's own, and written what Items tells of it.
const station = example.Station

const written = `overlap 3000
approach 15000
settle 2
hold 1
section E 9000
section F 8000
point P 5000
point Q 5000
section T 7000
section U 7000
section V 8000
section W 9000
join E.a Q.t
join E.b F.a
join P.t W.b
join P.n T.a
join P.r U.a
join Q.n T.b
join Q.r U.b
join V.b W.a
buffer F.b
buffer V.a
signal A W.b
signal B T.b
signal C U.b
signal D E.a
signal G T.a
signal H U.a
signal I V.b
signal J F.a
`

func stationPlan() api.Plan {
	return api.Plan{
		Overlap: 3000, Approach: 15000, Settle: 2, Hold: 1,
		Sections: []api.Section{
			{Name: "E", Length: 9000, Ends: [3]api.End{{To: 3, At: 0, Signal: 3}, {To: 1, At: 0, Signal: -1}, bare()}},
			{Name: "F", Length: 8000, Ends: [3]api.End{{To: 0, At: 1, Signal: 7}, bare(), bare()}},
			{Name: "P", Point: true, Length: 5000, Ends: [3]api.End{{To: 7, At: 1, Signal: -1}, {To: 4, At: 0, Signal: -1}, {To: 5, At: 0, Signal: -1}}},
			{Name: "Q", Point: true, Length: 5000, Ends: [3]api.End{{To: 0, At: 0, Signal: -1}, {To: 4, At: 1, Signal: -1}, {To: 5, At: 1, Signal: -1}}},
			{Name: "T", Length: 7000, Ends: [3]api.End{{To: 2, At: 1, Signal: 4}, {To: 3, At: 1, Signal: 1}, bare()}},
			{Name: "U", Length: 7000, Ends: [3]api.End{{To: 2, At: 2, Signal: 5}, {To: 3, At: 2, Signal: 2}, bare()}},
			{Name: "V", Length: 8000, Ends: [3]api.End{bare(), {To: 7, At: 0, Signal: 6}, bare()}},
			{Name: "W", Length: 9000, Ends: [3]api.End{{To: 6, At: 1, Signal: -1}, {To: 2, At: 0, Signal: 0}, bare()}},
		},
		Signals: []api.Signal{
			{Name: "A", Section: 7, End: 1}, {Name: "B", Section: 4, End: 1}, {Name: "C", Section: 5, End: 1}, {Name: "D", Section: 0, End: 0},
			{Name: "G", Section: 4, End: 0}, {Name: "H", Section: 5, End: 0}, {Name: "I", Section: 6, End: 1}, {Name: "J", Section: 1, End: 0},
		},
	}
}

// bare is an end that is stopped, or that a plain section hasn't.
func bare() api.End { return api.End{To: -1, At: 0, Signal: -1} }

func items(t *testing.T, s string) []api.Item {
	t.Helper()
	l, f := sheet.Parse(s)
	if f != (api.Fault{}) {
		t.Fatalf("%q isn't of the form: %#v", s, f)
	}
	return l
}

// same tells whether plans are the same, lists that hold nothing being so.
func same(p, q api.Plan) bool {
	return p.Overlap == q.Overlap && p.Approach == q.Approach && p.Settle == q.Settle && p.Hold == q.Hold &&
		slices.Equal(p.Sections, q.Sections) && slices.Equal(p.Signals, q.Signals)
}

func builds(t *testing.T, l []api.Item, want api.Plan) {
	t.Helper()
	p, f := plan.Build(l)
	if f != (api.Fault{}) || !same(p, want) {
		t.Errorf("Build(%q) = %+v, %+v, want %+v, no fault", sheet.Print(l), p, f, want)
	}
}

func fails(t *testing.T, l []api.Item, err api.Errno, line int) {
	t.Helper()
	p, f := plan.Build(l)
	if f != (api.Fault{Err: err, Line: line}) || !same(p, api.Plan{}) {
		t.Errorf("Build(%q) = %+v, %+v, want none, error %d in line %d", sheet.Print(l), p, f, err, line)
	}
}

func refuses(t *testing.T, s string, err api.Errno, line int) {
	t.Helper()
	fails(t, items(t, s), err, line)
}

func built(t *testing.T, l []api.Item) api.Plan {
	t.Helper()
	p, f := plan.Build(l)
	if f != (api.Fault{}) {
		t.Fatalf("Build(%q) has the fault %+v", sheet.Print(l), f)
	}
	return p
}

func tells(t *testing.T, p api.Plan, want string) {
	t.Helper()
	if got := sheet.Print(plan.Items(p)); got != want {
		t.Errorf("Items(%+v) = %q, want %q", p, got, want)
	}
}

// P5.1: Letter.

func TestLetterOfEachEnd(t *testing.T) {
	for i, want := range []byte{'a', 'b', 0, 0} {
		if got := plan.Letter(false, i); got != want {
			t.Errorf("Letter(false, %d) = %d, want %d", i, got, want)
		}
	}
	for i, want := range []byte{'t', 'n', 'r', 0} {
		if got := plan.Letter(true, i); got != want {
			t.Errorf("Letter(true, %d) = %d, want %d", i, got, want)
		}
	}
}

func TestLetterOfNoEnd(t *testing.T) {
	for _, point := range []bool{false, true} {
		for _, end := range []int{math.MinInt, -256, -3, -2, -1, 3, 4, 5, 97, 256, 1 << 32, 1<<32 + 1, math.MaxInt} {
			if got := plan.Letter(point, end); got != 0 {
				t.Errorf("Letter(%t, %d) = %d, want 0", point, end, got)
			}
		}
	}
}

// P5.1: Find.

func TestFindTellsTheFirstPlace(t *testing.T) {
	l := []api.Section{{Name: "W"}, {Name: "P", Point: true}, {Name: "W", Length: 3}, {Name: ""}, {Name: "p"}, {Name: ""}}
	for name, want := range map[string]int{"W": 0, "P": 1, "": 3, "p": 4, "w": -1, "Q": -1, "W ": -1, " W": -1, "WP": -1, "W\x00": -1} {
		if got := plan.Find(l, name); got != want {
			t.Errorf("Find(%q) = %d, want %d", name, got, want)
		}
	}
	for i, s := range stationPlan().Sections {
		if got := plan.Find(stationPlan().Sections, s.Name); got != i {
			t.Errorf("Find(%q) = %d, want %d", s.Name, got, i)
		}
	}
}

func TestFindInNothing(t *testing.T) {
	for _, l := range [][]api.Section{nil, {}, make([]api.Section, 0, 4)} {
		for _, name := range []string{"", "W"} {
			if got := plan.Find(l, name); got != -1 {
				t.Errorf("Find(%q) in nothing = %d", name, got)
			}
		}
	}
}

func TestFindInAnyOrder(t *testing.T) {
	l := []api.Section{{Name: "z"}, {Name: "b"}, {Name: "a"}, {Name: "B"}, {Name: "0"}, {Name: "\xff"}}
	for i, s := range l {
		if got := plan.Find(l, s.Name); got != i {
			t.Errorf("Find(%q) = %d, want %d", s.Name, got, i)
		}
	}
}

// P5.1: Build without a fault.

func TestBuildOfTheStation(t *testing.T) { builds(t, items(t, station), stationPlan()) }

func TestBuildOfNothing(t *testing.T) {
	builds(t, nil, api.Plan{})
	builds(t, []api.Item{}, api.Plan{})
}

func TestBuildOfTheChaptersExample(t *testing.T) {
	s := "point P 1\nsection T 2\nsection U 3\nsection W 4\njoin P.t W.b\njoin P.n T.a\njoin P.r U.a\nbuffer T.b\nbuffer U.b\nbuffer W.a\n"
	builds(t, items(t, s), api.Plan{Sections: []api.Section{
		{Name: "P", Point: true, Length: 1, Ends: [3]api.End{{To: 3, At: 1, Signal: -1}, {To: 1, At: 0, Signal: -1}, {To: 2, At: 0, Signal: -1}}},
		{Name: "T", Length: 2, Ends: [3]api.End{{To: 0, At: 1, Signal: -1}, bare(), bare()}},
		{Name: "U", Length: 3, Ends: [3]api.End{{To: 0, At: 2, Signal: -1}, bare(), bare()}},
		{Name: "W", Length: 4, Ends: [3]api.End{bare(), {To: 0, At: 0, Signal: -1}, bare()}},
	}})
}

func TestBuildOfNumbersAlone(t *testing.T) {
	builds(t, items(t, "overlap 1\napproach 2\nsettle 3\nhold 4\n"), api.Plan{Overlap: 1, Approach: 2, Settle: 3, Hold: 4})
	builds(t, items(t, "hold 4\nsettle 3\napproach 2\noverlap 1\n"), api.Plan{Overlap: 1, Approach: 2, Settle: 3, Hold: 4})
	builds(t, items(t, "overlap 1099511627776\n"), api.Plan{Overlap: length})
	builds(t, items(t, "approach 1099511627776\n"), api.Plan{Approach: length})
	builds(t, items(t, "settle 1000\n"), api.Plan{Settle: 1000})
	builds(t, items(t, "hold 1000\n"), api.Plan{Hold: 1000})
	builds(t, items(t, "overlap 0\napproach 0\nsettle 0\nhold 0\n"), api.Plan{})
}

func TestBuildOfASectionAlone(t *testing.T) {
	builds(t, items(t, "section W 7\nbuffer W.b\nbuffer W.a\n"),
		api.Plan{Sections: []api.Section{{Name: "W", Length: 7, Ends: [3]api.End{bare(), bare(), bare()}}}})
	builds(t, items(t, "point abcdefgh 1099511627776\nbuffer abcdefgh.r\nbuffer abcdefgh.n\nbuffer abcdefgh.t\n"),
		api.Plan{Sections: []api.Section{{Name: "abcdefgh", Point: true, Length: length, Ends: [3]api.End{bare(), bare(), bare()}}}})
}

func TestBuildOfASectionJoinedToItself(t *testing.T) {
	ring := api.Plan{
		Sections: []api.Section{{Name: "W", Length: 1, Ends: [3]api.End{{To: 0, At: 1, Signal: 1}, {To: 0, At: 0, Signal: 0}, bare()}}},
		Signals:  []api.Signal{{Name: "A", Section: 0, End: 1}, {Name: "B", Section: 0, End: 0}},
	}
	builds(t, items(t, "section W 1\njoin W.a W.b\nsignal A W.b\nsignal B W.a\n"), ring)
	builds(t, items(t, "section W 1\nsignal B W.a\njoin W.b W.a\nsignal A W.b\n"), ring)
	loop := api.Plan{
		Sections: []api.Section{{Name: "P", Point: true, Length: 1, Ends: [3]api.End{bare(), {To: 0, At: 2, Signal: -1}, {To: 0, At: 1, Signal: 0}}}},
		Signals:  []api.Signal{{Name: "A", Section: 0, End: 2}},
	}
	builds(t, items(t, "point P 1\njoin P.r P.n\nbuffer P.t\nsignal A P.r\n"), loop)
	builds(t, items(t, "point P 1\nsignal A P.r\nbuffer P.t\njoin P.n P.r\n"), loop)
}

func TestBuildOfSignalsAtEachEnd(t *testing.T) {
	s := "point P 1\npoint Q 1\njoin P.t Q.r\njoin P.n Q.t\njoin P.r Q.n\nsignal f P.t\nsignal e P.n\nsignal d P.r\nsignal c Q.t\nsignal b Q.n\nsignal a Q.r\n"
	builds(t, items(t, s), api.Plan{
		Sections: []api.Section{
			{Name: "P", Point: true, Length: 1, Ends: [3]api.End{{To: 1, At: 2, Signal: 5}, {To: 1, At: 0, Signal: 4}, {To: 1, At: 1, Signal: 3}}},
			{Name: "Q", Point: true, Length: 1, Ends: [3]api.End{{To: 0, At: 1, Signal: 2}, {To: 0, At: 2, Signal: 1}, {To: 0, At: 0, Signal: 0}}},
		},
		Signals: []api.Signal{
			{Name: "a", Section: 1, End: 2}, {Name: "b", Section: 1, End: 1}, {Name: "c", Section: 1, End: 0},
			{Name: "d", Section: 0, End: 2}, {Name: "e", Section: 0, End: 1}, {Name: "f", Section: 0, End: 0},
		},
	})
}

func TestBuildStandsByNamesByteByByte(t *testing.T) {
	names := []string{"0", "00", "1", "10", "2", "9", "A", "AA", "AB", "Aa", "B", "Z", "Z9", "a", "aA", "b", "z", "zzzzzzzz"}
	var l []api.Item
	for i := range names {
		name := names[(i*7+5)%len(names)]
		l = append(l, item1(t, "section "+name+" 1"), item1(t, "join "+name+".a "+name+".b"))
		if i%2 == 0 {
			l = append(l, item1(t, "signal "+name+" "+name+".a"))
		}
	}
	p := built(t, l)
	for i, s := range p.Sections {
		if s.Name != names[i] {
			t.Errorf("section %d is %q, want %q", i, s.Name, names[i])
		}
	}
	for i, s := range p.Signals {
		if p.Sections[s.Section].Name != s.Name || p.Sections[s.Section].Ends[0].Signal != i || i > 0 && p.Signals[i-1].Name >= s.Name {
			t.Errorf("signal %d is %+v", i, s)
		}
	}
	if len(p.Sections) != len(names) || len(p.Signals) != len(names)/2 {
		t.Errorf("%d sections, %d signals", len(p.Sections), len(p.Signals))
	}
}

func item1(t *testing.T, line string) api.Item {
	t.Helper()
	return items(t, line+"\n")[0]
}

func TestNamesOfSectionsAndOfSignalsMayBeTheSame(t *testing.T) {
	builds(t, items(t, "section W 1\njoin W.a W.b\nsignal W W.a\n"), api.Plan{
		Sections: []api.Section{{Name: "W", Length: 1, Ends: [3]api.End{{To: 0, At: 1, Signal: 0}, {To: 0, At: 0, Signal: -1}, bare()}}},
		Signals:  []api.Signal{{Name: "W", Section: 0, End: 0}},
	})
}

// P5.1: Build with a fault.

func TestBuildOfItemsThatMayNotBe(t *testing.T) {
	a := api.Tip{Name: "W", Ends: 'a'}
	b := api.Tip{Name: "W", Ends: 'b'}
	for _, x := range []api.Item{
		{}, {Kind: -1}, {Kind: 10}, {Kind: 99}, {Kind: math.MaxInt}, {Kind: math.MinInt},
		{Kind: api.LineOverlap, N: -1}, {Kind: api.LineOverlap, N: length + 1}, {Kind: api.LineApproach, N: math.MaxInt},
		{Kind: api.LineSettle, N: 1001}, {Kind: api.LineHold, N: 1001}, {Kind: api.LineHold, N: math.MinInt}, {Kind: api.LineHold, Name: "W"},
		{Kind: api.LineSection, Name: "V"}, {Kind: api.LineSection, N: 1}, {Kind: api.LineSection, Name: "V", N: length + 1}, {Kind: api.LinePoint, Name: "V.t", N: 1},
		{Kind: api.LinePoint, Name: "abcdefghi", N: 1}, {Kind: api.LineSection, Name: "V", N: 1, Ends: [2]api.Tip{a}}, {Kind: api.LineSection, Name: "W", N: -1},
		{Kind: api.LineJoin}, {Kind: api.LineJoin, Ends: [2]api.Tip{a}}, {Kind: api.LineJoin, Ends: [2]api.Tip{a, b}, N: 1},
		{Kind: api.LineJoin, Ends: [2]api.Tip{a, {Name: "W", Ends: 0}}}, {Kind: api.LineJoin, Ends: [2]api.Tip{a, {Name: "W", Ends: 'x'}}},
		{Kind: api.LineBuffer, Ends: [2]api.Tip{a, b}}, {Kind: api.LineBuffer, Ends: [2]api.Tip{{Name: "W", Ends: 'A'}}}, {Kind: api.LineBuffer, Ends: [2]api.Tip{a}, Name: "W"},
		{Kind: api.LineSignal, Ends: [2]api.Tip{a}}, {Kind: api.LineSignal, Name: "\u00e9", Ends: [2]api.Tip{a}}, {Kind: api.LineSignal, Name: "A", Ends: [2]api.Tip{{Name: "W"}}},
	} {
		fails(t, []api.Item{x}, api.ErrForm, 1)
		l := items(t, "section W 1\n")
		fails(t, append(l, x), api.ErrForm, 2)
		fails(t, append(items(t, station), x), api.ErrForm, 31)
		fails(t, append(items(t, "hold 1\nhold 1\n"), x), api.ErrTwice, 2)
		fails(t, append(l, x, item1(t, "section W 1")), api.ErrForm, 2)
	}
}

func TestBuildOfANumberToldTwice(t *testing.T) {
	for _, word := range []string{"overlap", "approach", "settle", "hold"} {
		refuses(t, word+" 0\n"+word+" 0\n", api.ErrTwice, 2)
		refuses(t, word+" 0\n"+word+" 3\n", api.ErrTwice, 2)
		refuses(t, word+" 3\n"+word+" 0\n", api.ErrTwice, 2)
		refuses(t, word+" 3\n"+word+" 3\n", api.ErrTwice, 2)
		refuses(t, station+word+" 7\n", api.ErrTwice, 31)
		refuses(t, word+" 7\n"+station, api.ErrTwice, 2+slices.Index([]string{"overlap", "approach", "settle", "hold"}, word))
	}
}

func TestBuildOfASectionToldTwice(t *testing.T) {
	for _, first := range []string{"section W 1\n", "point W 1\n"} {
		for _, second := range []string{"section W 1\n", "section W 2\n", "point W 1\n", "point W 2\n"} {
			refuses(t, first+second, api.ErrTwice, 2)
			refuses(t, first+"section V 1\n"+second, api.ErrTwice, 3)
		}
	}
	refuses(t, "section w 1\nsection W 1\nsection w 1\n", api.ErrTwice, 3)
}

func TestBuildOfAnEndThatIsntThere(t *testing.T) {
	have := "section W 1\npoint P 1\nsection V 1\n"
	for _, line := range []string{"join %s V.a\n", "join V.a %s\n", "buffer %s\n", "signal A %s\n"} {
		at := func(end string) string { return have + strings.Replace(line, "%s", end, 1) }
		for _, end := range []string{"Q.a", "w.a", "WW.a", "Q.t", "p.t", "P1.r"} {
			refuses(t, at(end), api.ErrNone, 4)
		}
		for _, end := range []string{"W.t", "W.n", "W.r", "P.a", "P.b"} {
			refuses(t, at(end), api.ErrEnd, 4)
		}
		refuses(t, strings.Replace(line, "%s", "W.a", 1)+have, api.ErrNone, 1)
	}
	refuses(t, "section W 1\njoin W.a V.a\nsection V 1\n", api.ErrNone, 2)
	refuses(t, "section W 1\njoin V.a W.a\nsection V 1\n", api.ErrNone, 2)
	refuses(t, "section W 1\nsignal A V.a\nsection V 1\n", api.ErrNone, 2)
	refuses(t, "section W 1\nbuffer V.a\nsection V 1\n", api.ErrNone, 2)
}

func TestBuildOfAnEndThatIsUsed(t *testing.T) {
	have := "section W 1\nsection V 1\nsection U 1\npoint P 1\n"
	for _, first := range []string{"join W.a V.b\n", "join V.b W.a\n", "buffer W.a\n", "join W.a W.b\n", "join W.b W.a\n", "join P.t W.a\n", "join W.a P.r\n"} {
		for _, second := range []string{"buffer W.a\n", "join W.a U.a\n", "join U.a W.a\n", "join W.a W.a\n"} {
			refuses(t, have+first+second, api.ErrUsed, 6)
			refuses(t, have+first+"buffer U.b\n"+second, api.ErrUsed, 7)
		}
	}
	for _, end := range []string{"W.a", "W.b", "P.t", "P.n", "P.r"} {
		refuses(t, have+"join "+end+" "+end+"\n", api.ErrUsed, 5)
		refuses(t, have+"buffer "+end+"\nbuffer "+end+"\n", api.ErrUsed, 6)
	}
}

func TestBuildOfAJoinTellsOfItsFirstEndAhead(t *testing.T) {
	have := "section W 1\nsection V 1\nbuffer V.a\n"
	type wrong struct {
		end string
		err api.Errno
	}
	l := []wrong{{"Q.a", api.ErrNone}, {"W.t", api.ErrEnd}, {"V.a", api.ErrUsed}}
	for _, x := range l {
		for _, y := range l {
			refuses(t, have+"join "+x.end+" "+y.end+"\n", x.err, 4)
		}
		refuses(t, have+"join "+x.end+" W.a\n", x.err, 4)
		refuses(t, have+"join W.a "+x.end+"\n", x.err, 4)
	}
}

func TestBuildOfASignalToldTwice(t *testing.T) {
	have := "section W 1\npoint P 1\nsignal A W.a\n"
	refuses(t, have+"signal A W.b\n", api.ErrTwice, 4)
	refuses(t, have+"signal A W.a\n", api.ErrTwice, 4)
	refuses(t, have+"signal A P.t\n", api.ErrTwice, 4)
	refuses(t, have+"signal B W.a\n", api.ErrTwice, 4)
	refuses(t, have+"signal a W.a\n", api.ErrTwice, 4)
	refuses(t, have+"signal a W.b\nsignal B P.n\nsignal C P.n\n", api.ErrTwice, 6)
	// Its name comes ahead of its end.
	refuses(t, have+"signal A Q.a\n", api.ErrTwice, 4)
	refuses(t, have+"signal A W.t\n", api.ErrTwice, 4)
	refuses(t, have+"signal B Q.a\n", api.ErrNone, 4)
	refuses(t, have+"signal B W.r\n", api.ErrEnd, 4)
}

// many gives so many sections joined to themselves, by names that rise.
func many(n int) string {
	var s strings.Builder
	for i := range n {
		name := "s" + string(rune('A'+i))
		kind, ends := "section ", name+".a "+name+".b\n"
		if i%3 == 1 {
			kind, ends = "point ", name+".n "+name+".r\nbuffer "+name+".t\n"
		}
		s.WriteString(kind + name + " " + strconv.Itoa(i+1) + "\njoin " + ends)
	}
	return s.String()
}

func lines(s string) int { return strings.Count(s, "\n") }

func TestBuildOfAsManySectionsAsThereMayBe(t *testing.T) {
	for _, n := range []int{1, 23, 24} {
		if p := built(t, items(t, many(n))); len(p.Sections) != n {
			t.Errorf("%d sections are %d", n, len(p.Sections))
		}
	}
	most := many(24)
	refuses(t, most+"section x 1\n", api.ErrLarge, lines(most)+1)
	refuses(t, most+"point x 1\n", api.ErrLarge, lines(most)+1)
	// One that is there already is told as that.
	refuses(t, most+"section sA 1\n", api.ErrTwice, lines(most)+1)
	refuses(t, most+"point sX 1\n", api.ErrTwice, lines(most)+1)
	refuses(t, most+"section x 1\nsection sA 1\n", api.ErrLarge, lines(most)+1)
	refuses(t, many(25), api.ErrLarge, lines(most)+1)
}

// signals gives so many signals at ends of the sections that many gives.
func signals(n int) string {
	var s strings.Builder
	for i := range n {
		end := ".a"
		if i%3 == 1 {
			end = ".r"
		}
		s.WriteString("signal S" + string(rune('z'-i)) + " s" + string(rune('A'+i)) + end + "\n")
	}
	return s.String()
}

func TestBuildOfAsManySignalsAsThereMayBe(t *testing.T) {
	for _, n := range []int{1, 11, 12} {
		if p := built(t, items(t, many(24)+signals(n))); len(p.Signals) != n {
			t.Errorf("%d signals are %d", n, len(p.Signals))
		}
	}
	most := many(24) + signals(12)
	refuses(t, most+"signal x sX.a\n", api.ErrLarge, lines(most)+1)
	refuses(t, most+"signal x sA.b\n", api.ErrLarge, lines(most)+1)
	refuses(t, many(24)+signals(13), api.ErrLarge, lines(most)+1)
	// What else is wrong with it comes ahead.
	refuses(t, most+"signal Sz sX.a\n", api.ErrTwice, lines(most)+1)
	refuses(t, most+"signal x sA.a\n", api.ErrTwice, lines(most)+1)
	refuses(t, most+"signal x Q.a\n", api.ErrNone, lines(most)+1)
	refuses(t, most+"signal x sA.t\n", api.ErrEnd, lines(most)+1)
	refuses(t, most+"signal x sB.t\n", api.ErrLarge, lines(most)+1)
}

func TestBuildOfAnOpenEnd(t *testing.T) {
	refuses(t, "section W 1\n", api.ErrOpen, 1)
	refuses(t, "section W 1\nbuffer W.a\n", api.ErrOpen, 1)
	refuses(t, "section W 1\nbuffer W.b\n", api.ErrOpen, 1)
	refuses(t, "hold 1\npoint P 1\n", api.ErrOpen, 2)
	for _, ends := range []string{"tn", "tr", "nr", "t", "n", "r"} {
		s := "hold 1\npoint P 1\n"
		for _, c := range ends {
			s += "buffer P." + string(c) + "\n"
		}
		refuses(t, s, api.ErrOpen, 2)
	}
	refuses(t, "point P 1\nsection W 1\njoin P.n P.r\njoin W.a P.t\n", api.ErrOpen, 2)
	refuses(t, "section W 1\nsection V 1\njoin W.a V.a\nbuffer V.b\n", api.ErrOpen, 1)
	refuses(t, "section W 1\nsection V 1\njoin W.a V.a\nbuffer W.b\n", api.ErrOpen, 2)
	// By lines, not by names.
	refuses(t, "section W 1\nsection V 1\n", api.ErrOpen, 1)
	// A signal doesn't close its end.
	refuses(t, "section W 1\nbuffer W.b\nsignal A W.a\n", api.ErrOpen, 1)
}

func TestBuildOfASignalAtAStoppedEnd(t *testing.T) {
	refuses(t, "section W 1\nbuffer W.a\nbuffer W.b\nsignal A W.a\n", api.ErrStop, 4)
	refuses(t, "section W 1\nsignal A W.a\nbuffer W.a\nbuffer W.b\n", api.ErrStop, 2)
	refuses(t, "point P 1\njoin P.n P.r\nsignal B P.n\nsignal A P.t\nbuffer P.t\n", api.ErrStop, 4)
	refuses(t, "point P 1\njoin P.t P.r\nsignal A P.n\nbuffer P.n\n", api.ErrStop, 3)
	// By lines, not by names.
	refuses(t, "section W 1\nbuffer W.a\nbuffer W.b\nsignal B W.b\nsignal A W.a\n", api.ErrStop, 4)
}

func TestBuildTellsTheFirstLine(t *testing.T) {
	// An open end, and a signal at a stopped one, by whose line comes first.
	refuses(t, "section W 1\nsignal A W.a\nsection V 1\nbuffer W.a\nbuffer W.b\n", api.ErrStop, 2)
	refuses(t, "section V 1\nsection W 1\nsignal A W.a\nbuffer W.a\nbuffer W.b\n", api.ErrOpen, 1)
	// What is wrong with a line itself comes ahead of both.
	refuses(t, "section V 1\nhold 1\nhold 1\n", api.ErrTwice, 3)
	refuses(t, "section W 1\nsignal A W.a\nbuffer W.a\nbuffer W.b\nbuffer Q.a\n", api.ErrNone, 5)
	refuses(t, "section W 1\nbuffer W.r\nhold 1\nhold 1\n", api.ErrEnd, 2)
	fails(t, append(items(t, "section W 1\n"), api.Item{}), api.ErrForm, 2)
	fails(t, append(items(t, "buffer W.a\n"), api.Item{}), api.ErrNone, 1)
	fails(t, append([]api.Item{{}}, items(t, "buffer W.a\n")...), api.ErrForm, 1)
}

func TestBuildOfTheStationWithoutALine(t *testing.T) {
	l := items(t, station)
	whole := stationPlan()
	for i, x := range l {
		less := slices.Delete(slices.Clone(l), i, i+1)
		p, f := plan.Build(less)
		switch x.Kind {
		case api.LineSection, api.LinePoint:
			if f.Err != api.ErrNone {
				t.Errorf("without %q: %+v", item.Print(x), f)
			}
		case api.LineJoin, api.LineBuffer:
			if f.Err != api.ErrOpen {
				t.Errorf("without %q: %+v", item.Print(x), f)
			}
		case api.LineSignal:
			if f != (api.Fault{}) || len(p.Signals) != len(whole.Signals)-1 {
				t.Errorf("without %q: %+v, %+v", item.Print(x), p, f)
			}
		default:
			want := stationPlan()
			*[]*int{&want.Overlap, &want.Approach, &want.Settle, &want.Hold}[x.Kind-1] = 0
			builds(t, less, want)
		}
	}
}

func TestBuildOfTheStationWithALineAgain(t *testing.T) {
	l := items(t, station)
	for i, x := range l {
		want := api.ErrTwice
		if x.Kind == api.LineJoin || x.Kind == api.LineBuffer {
			want = api.ErrUsed
		}
		fails(t, append(slices.Clone(l), x), want, 31)
		fails(t, slices.Insert(slices.Clone(l), i, x), want, i+2)
	}
}

func TestBuildOfALongList(t *testing.T) {
	l := slices.Repeat(items(t, "hold 1\n"), 1<<16)
	fails(t, l, api.ErrTwice, 2)
	long := api.Item{Kind: api.LineSection, Name: strings.Repeat("x", 1<<20), N: 1}
	fails(t, []api.Item{long}, api.ErrForm, 1)
}

// P5.2: there and back.

func TestItemsOfTheStation(t *testing.T) { tells(t, stationPlan(), written) }

func TestItemsOfNothing(t *testing.T) {
	if l := plan.Items(api.Plan{}); len(l) != 0 {
		t.Errorf("Items of nothing = %+v", l)
	}
}

func TestItemsOfNumbers(t *testing.T) {
	tells(t, api.Plan{Overlap: 1, Approach: 2, Settle: 3, Hold: 4}, "overlap 1\napproach 2\nsettle 3\nhold 4\n")
	tells(t, api.Plan{Overlap: 1}, "overlap 1\n")
	tells(t, api.Plan{Approach: 2}, "approach 2\n")
	tells(t, api.Plan{Settle: 3}, "settle 3\n")
	tells(t, api.Plan{Hold: 4}, "hold 4\n")
	tells(t, api.Plan{Overlap: 1 << 50, Hold: 1 << 50}, "overlap 1125899906842624\nhold 1125899906842624\n")
	for _, x := range plan.Items(api.Plan{Overlap: 1, Approach: 2, Settle: 3, Hold: 4}) {
		if !item.Right(x) {
			t.Errorf("%+v may not be", x)
		}
	}
}

func TestItemsOfASectionJoinedToItself(t *testing.T) {
	tells(t, built(t, items(t, "section W 1\njoin W.b W.a\nsignal B W.b\nsignal A W.a\n")), "section W 1\njoin W.a W.b\nsignal A W.a\nsignal B W.b\n")
	tells(t, built(t, items(t, "point P 1\njoin P.r P.t\nbuffer P.n\n")), "point P 1\njoin P.t P.r\nbuffer P.n\n")
	tells(t, built(t, items(t, "point P 1\njoin P.r P.n\nbuffer P.t\n")), "point P 1\njoin P.n P.r\nbuffer P.t\n")
	tells(t, built(t, items(t, "point P 1\njoin P.n P.t\nbuffer P.r\n")), "point P 1\njoin P.t P.n\nbuffer P.r\n")
}

func TestItemsOfBufferStopsInOrder(t *testing.T) {
	s := "point Q 1\nsection W 1\npoint P 1\nbuffer Q.r\nbuffer P.r\nbuffer W.b\nbuffer Q.t\nbuffer P.n\nbuffer W.a\nbuffer P.t\nbuffer Q.n\n"
	tells(t, built(t, items(t, s)),
		"point P 1\npoint Q 1\nsection W 1\nbuffer P.t\nbuffer P.n\nbuffer P.r\nbuffer Q.t\nbuffer Q.n\nbuffer Q.r\nbuffer W.a\nbuffer W.b\n")
}

func TestItemsOfJoinsBetweenTheSameSections(t *testing.T) {
	s := "point Q 1\npoint P 1\njoin Q.t P.r\njoin Q.n P.n\njoin Q.r P.t\n"
	tells(t, built(t, items(t, s)), "point P 1\npoint Q 1\njoin P.t Q.r\njoin P.n Q.n\njoin P.r Q.t\n")
}

// ledger is a station as the test keeps it, in another way than Build does: by names and by ends' texts.
type ledger struct {
	kinds map[string]int    // by a section's name
	other map[string]string // by an end's text: that of the one that it meets, or "stop"
	posts map[string]string // by an end's text: the signal there
	seen  map[string]bool   // numbers' words, and signals' names behind a blank
}

func (g ledger) letters(name string) string {
	switch g.kinds[name] {
	case api.LineSection:
		return "ab"
	case api.LinePoint:
		return "tnr"
	}
	return ""
}

func text(x api.Tip) string { return x.Name + "." + string(rune(x.Ends)) }

func (g ledger) end(x api.Tip) api.Errno {
	if g.kinds[x.Name] == 0 {
		return api.ErrNone
	}
	if !strings.ContainsRune(g.letters(x.Name), rune(x.Ends)) {
		return api.ErrEnd
	}
	return api.OK
}

// use notes where an end leads.
func (g ledger) use(x api.Tip, to string) api.Errno {
	if err := g.end(x); err != api.OK {
		return err
	}
	if g.other[text(x)] != "" {
		return api.ErrUsed
	}
	g.other[text(x)] = to
	return api.OK
}

func (g ledger) section(x api.Item) api.Errno {
	if g.kinds[x.Name] != 0 {
		return api.ErrTwice
	}
	if len(g.kinds) == 24 {
		return api.ErrLarge
	}
	g.kinds[x.Name] = x.Kind
	return api.OK
}

func (g ledger) signal(name string, x api.Tip) api.Errno {
	if g.seen[" "+name] {
		return api.ErrTwice
	}
	if err := g.end(x); err != api.OK {
		return err
	}
	if g.posts[text(x)] != "" {
		return api.ErrTwice
	}
	if len(g.posts) == 12 {
		return api.ErrLarge
	}
	g.seen[" "+name] = true
	g.posts[text(x)] = name
	return api.OK
}

func (g ledger) line(x api.Item) api.Errno {
	a, b := x.Ends[0], x.Ends[1]
	switch {
	case !item.Right(x):
		return api.ErrForm
	case isSection(x):
		return g.section(x)
	case x.Kind == api.LineSignal:
		return g.signal(x.Name, a)
	case x.Kind == api.LineBuffer:
		return g.use(a, "stop")
	case x.Kind == api.LineJoin:
		if err := g.use(a, text(b)); err != api.OK {
			return err
		}
		return g.use(b, text(a))
	case g.seen[item.Word(x.Kind)]:
		return api.ErrTwice
	}
	g.seen[item.Word(x.Kind)] = true
	return api.OK
}

func (g ledger) behind(x api.Item) api.Errno {
	if x.Kind == api.LineSignal && g.other[text(x.Ends[0])] == "stop" {
		return api.ErrStop
	}
	for _, c := range g.letters(x.Name) {
		if isSection(x) && g.other[x.Name+"."+string(c)] == "" {
			return api.ErrOpen
		}
	}
	return api.OK
}

func (g ledger) plan(l []api.Item) api.Plan {
	names, signals := slices.Sorted(maps.Keys(g.kinds)), slices.Sorted(maps.Values(g.posts))
	p := api.Plan{Sections: make([]api.Section, len(names)), Signals: make([]api.Signal, len(signals))}
	for _, x := range l {
		switch x.Kind {
		case api.LineOverlap:
			p.Overlap = x.N
		case api.LineApproach:
			p.Approach = x.N
		case api.LineSettle:
			p.Settle = x.N
		case api.LineHold:
			p.Hold = x.N
		case api.LineSection, api.LinePoint:
			s := api.Section{Name: x.Name, Point: x.Kind == api.LinePoint, Length: x.N, Ends: [3]api.End{bare(), bare(), bare()}}
			for i, c := range g.letters(x.Name) {
				tip := x.Name + "." + string(c)
				if to, at, ok := strings.Cut(g.other[tip], "."); ok {
					s.Ends[i].To, s.Ends[i].At = slices.Index(names, to), strings.Index(g.letters(to), at)
				}
				if g.posts[tip] != "" {
					s.Ends[i].Signal = slices.Index(signals, g.posts[tip])
				}
			}
			p.Sections[slices.Index(names, x.Name)] = s
		case api.LineSignal:
			a := x.Ends[0]
			p.Signals[slices.Index(signals, x.Name)] = api.Signal{
				Name: x.Name, Section: slices.Index(names, a.Name), End: strings.IndexByte(g.letters(a.Name), a.Ends),
			}
		}
	}
	return p
}

// oracle tells what Build must.
func oracle(l []api.Item) (api.Plan, api.Fault) {
	g := ledger{map[string]int{}, map[string]string{}, map[string]string{}, map[string]bool{}}
	for _, look := range []func(api.Item) api.Errno{g.line, g.behind} {
		for i, x := range l {
			if err := look(x); err != api.OK {
				return api.Plan{}, api.Fault{Err: err, Line: i + 1}
			}
		}
	}
	return g.plan(l), api.Fault{}
}

// random gives a station without a fault: n sections, whose ends are joined, stopped and given signals at random.
func random(r *rand.Rand, n int) []api.Item {
	var l []api.Item
	for i, most := range []int{length, length, 1000, 1000} {
		if r.Intn(2) == 0 {
			l = append(l, api.Item{Kind: 1 + i, N: r.Intn(most + 1)})
		}
	}
	var ends []api.Tip
	for _, name := range r.Perm(1000)[:n] {
		x := api.Item{Kind: api.LineSection, Name: "S" + strconv.Itoa(name), N: 1 + r.Intn(length)}
		letters := "ab"
		if r.Intn(2) == 0 {
			x.Kind, letters = api.LinePoint, "tnr"
		}
		l = append(l, x)
		for _, c := range letters {
			ends = append(ends, api.Tip{Name: x.Name, Ends: byte(c)})
		}
	}
	r.Shuffle(len(ends), func(i, j int) { ends[i], ends[j] = ends[j], ends[i] })
	posts := r.Intn(13)
	for len(ends) > 0 {
		if len(ends) == 1 || r.Intn(5) == 0 {
			l = append(l, api.Item{Kind: api.LineBuffer, Ends: [2]api.Tip{ends[0]}})
			ends = ends[1:]
			continue
		}
		l = append(l, api.Item{Kind: api.LineJoin, Ends: [2]api.Tip{ends[0], ends[1]}})
		for _, e := range ends[:2] {
			if posts > 0 && r.Intn(2) == 0 {
				posts--
				l = append(l, api.Item{Kind: api.LineSignal, Name: strconv.Itoa(posts*37%100) + "Z", Ends: [2]api.Tip{e}})
			}
		}
		ends = ends[2:]
	}
	return l
}

func isSection(x api.Item) bool { return x.Kind == api.LineSection || x.Kind == api.LinePoint }

// mixed gives the items in another order, sections and points first, and joins told from either end.
func mixed(r *rand.Rand, l []api.Item) []api.Item {
	m := slices.Clone(l)
	r.Shuffle(len(m), func(i, j int) { m[i], m[j] = m[j], m[i] })
	for i, x := range m {
		if x.Kind == api.LineJoin && r.Intn(2) == 0 {
			m[i].Ends = [2]api.Tip{x.Ends[1], x.Ends[0]}
		}
	}
	slices.SortStableFunc(m, func(a, b api.Item) int {
		switch {
		case isSection(a) == isSection(b):
			return 0
		case isSection(a):
			return -1
		}
		return 1
	})
	return m
}

func TestItemsBuildThePlanAgain(t *testing.T) {
	r := rand.New(rand.NewSource(5))
	for i := range 3000 {
		l := random(r, 1+i%24)
		want, _ := oracle(l)
		builds(t, l, want)
		back := plan.Items(want)
		builds(t, back, want)
		for range 3 {
			m := mixed(r, back)
			builds(t, m, want)
			tells(t, built(t, m), sheet.Print(back))
		}
		if t.Failed() {
			return
		}
	}
}

// ordered holds what the chapter says of the order of Items against them.
func ordered(t *testing.T, p api.Plan) {
	t.Helper()
	l := plan.Items(p)
	rank := func(x api.Tip) int {
		i := plan.Find(p.Sections, x.Name)
		return 3*i + strings.IndexByte(map[bool]string{false: "ab", true: "tnr"}[p.Sections[i].Point], x.Ends)
	}
	key := func(x api.Item) [3]int {
		switch {
		case x.Kind <= api.LineHold:
			return [3]int{0, x.Kind}
		case isSection(x):
			return [3]int{1, plan.Find(p.Sections, x.Name)}
		case x.Kind == api.LineSignal:
			return [3]int{4, slices.IndexFunc(p.Signals, func(s api.Signal) bool { return s.Name == x.Name })}
		}
		return [3]int{x.Kind - 5, rank(x.Ends[0])}
	}
	for i, x := range l {
		if x.Kind <= api.LineHold && x.N == 0 || x.Kind == api.LineJoin && rank(x.Ends[0]) >= rank(x.Ends[1]) {
			t.Errorf("%q is told of %+v", item.Print(x), p)
		}
		if i > 0 {
			a, b := key(l[i-1]), key(x)
			if slices.Compare(a[:], b[:]) >= 0 {
				t.Errorf("%q stands ahead of %q", item.Print(l[i-1]), item.Print(x))
			}
		}
	}
}

func TestItemsStandInTheirOrder(t *testing.T) {
	r := rand.New(rand.NewSource(6))
	for i := range 1500 {
		l := random(r, 1+i%24)
		ordered(t, built(t, l))
	}
}

// TestBuildOfSpoiltStations holds Build against the oracle where one line or two are gone, told again, changed or moved.
func TestBuildOfSpoiltStations(t *testing.T) {
	r := rand.New(rand.NewSource(7))
	told := map[api.Errno]int{}
	for i := range 20000 {
		l := random(r, 1+i%24)
		for range 1 + r.Intn(2) {
			at, from := r.Intn(len(l)), r.Intn(len(l))
			switch r.Intn(6) {
			case 0:
				l = slices.Delete(l, at, at+1)
			case 1:
				l = slices.Insert(l, at, l[from])
			case 2:
				l[at], l[from] = l[from], l[at]
			case 3:
				l[at].Ends[r.Intn(2)] = l[from].Ends[r.Intn(2)]
			case 4:
				l[at].Name = l[from].Name
			default:
				l[at].Kind = r.Intn(11)
			}
			if len(l) == 0 {
				break
			}
		}
		want, fault := oracle(l)
		told[fault.Err]++
		if p, f := plan.Build(l); f != fault || !same(p, want) {
			t.Fatalf("Build(%q) = %+v, %+v, want %+v, %+v", sheet.Print(l), p, f, want, fault)
		}
	}
	for _, err := range []api.Errno{api.OK, api.ErrForm, api.ErrTwice, api.ErrNone, api.ErrUsed, api.ErrOpen, api.ErrStop, api.ErrEnd} {
		if told[err] == 0 {
			t.Errorf("no station had the error %d", err)
		}
	}
}

// TestBuildOfAllShortLists holds Build against the oracle for all lists of up to four of some lines, sections and points told or not.
func TestBuildOfAllShortLists(t *testing.T) {
	some := items(t, "section W 1\npoint W 2\nsection V 3\nbuffer W.a\nbuffer W.b\njoin W.a V.a\njoin W.b W.a\njoin V.b V.b\nbuffer W.t\njoin W.n W.r\nsignal A W.a\nsignal B W.a\nsignal A W.t\nhold 0\n")
	lists := [][]api.Item{nil}
	for at := 0; at < len(lists); at++ {
		l := lists[at]
		want, fault := oracle(l)
		if p, f := plan.Build(l); f != fault || !same(p, want) {
			t.Fatalf("Build(%q) = %+v, %+v, want %+v, %+v", sheet.Print(l), p, f, want, fault)
		}
		if len(l) < 4 {
			for _, x := range some {
				lists = append(lists, append(slices.Clone(l), x))
			}
		}
	}
}

// What is handed in isn't changed, nothing is kept, and many may call at once.

func TestWhatIsHandedInStaysAsItWas(t *testing.T) {
	room := append(items(t, station), slices.Repeat([]api.Item{{Kind: 77, Name: "Z"}}, 40)...)
	kept := slices.Clone(room)
	if p, f := plan.Build(room[:30]); f != (api.Fault{}) || !same(p, stationPlan()) {
		t.Errorf("Build = %+v, %+v", p, f)
	}
	if !slices.Equal(room, kept) {
		t.Error("Build changed its list, or its spare room")
	}
	p := stationPlan()
	p.Sections = append(p.Sections, slices.Repeat([]api.Section{{Name: "Z"}}, 20)...)[:8]
	p.Signals = append(p.Signals, slices.Repeat([]api.Signal{{Name: "Z"}}, 20)...)[:8]
	q := p
	q.Sections, q.Signals = slices.Clone(p.Sections[:28]), slices.Clone(p.Signals[:28])
	plan.Items(p)
	plan.Find(p.Sections, "W")
	if !slices.Equal(p.Sections[:28], q.Sections) || !slices.Equal(p.Signals[:28], q.Signals) {
		t.Error("Items, or Find, changed a plan, or its spare room")
	}
}

func TestAnswersStandAlone(t *testing.T) {
	l := items(t, station)
	a, b := built(t, l), built(t, l)
	spoil(a)
	clear(l)
	if !same(b, stationPlan()) {
		t.Errorf("an answer was changed to %+v", b)
	}
	builds(t, items(t, station), stationPlan())
	x, y := plan.Items(stationPlan()), plan.Items(stationPlan())
	clear(append(x[:cap(x)], api.Item{}))
	clear(x[:cap(x)])
	if sheet.Print(y) != written {
		t.Errorf("an answer was changed to %+v", y)
	}
}

func spoil(p api.Plan) {
	clear(p.Sections[:cap(p.Sections)])
	clear(p.Signals[:cap(p.Signals)])
}

func TestCallsHangOnTheirArgumentsAlone(t *testing.T) {
	l := items(t, station)
	p := stationPlan()
	var all sync.WaitGroup
	for range 8 {
		all.Go(func() {
			for range 20 {
				builds(t, l, p)
				tells(t, p, written)
				fails(t, l[:6], api.ErrOpen, 5)
				if plan.Find(p.Sections, "W") != 7 || !same(p, stationPlan()) {
					t.Error("Find in the station")
				}
			}
		})
	}
	all.Wait()
}
