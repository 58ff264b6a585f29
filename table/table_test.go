package table_test

import (
	"math"
	"math/rand"
	"slices"
	"strconv"
	"strings"
	"sync"
	"testing"

	"leverman/api"
	"leverman/clash"
	"leverman/example"
	"leverman/plan"
	"leverman/route"
	"leverman/sheet"
	"leverman/table"
)

const (
	station = example.Station
	endless = 1 << 50 // the greatest of a plan's numbers
)

// strange are numbers that a raw table may hold: some are a small one in fewer bits.
var strange = []int{math.MinInt, math.MinInt + 1, -1 << 32, -1<<32 + 1, -256, -33, -2, 24, 25, 32, 33, 255, 256, 257, 1 << 31, 1 << 32, 1<<32 + 1, 1 << 48, 1<<48 + 1, math.MaxInt - 1, math.MaxInt}

func build(t *testing.T, text string) api.Plan {
	t.Helper()
	l, f := sheet.Parse(text)
	p, g := plan.Build(l)
	if f != (api.Fault{}) || g != (api.Fault{}) {
		t.Fatalf("%q is no station: %+v, %+v", text, f, g)
	}
	return p
}

func made(t *testing.T, p api.Plan) api.Table {
	t.Helper()
	x, err := table.Make(p)
	if err != api.OK {
		t.Fatalf("Make: error %d, of %+v", err, p)
	}
	return x
}

func sameRoute(a, b api.Route) bool {
	return a.Entry == b.Entry && a.Exit == b.Exit && slices.Equal(a.Steps, b.Steps) && slices.Equal(a.Lap, b.Lap) &&
		slices.Equal(a.Points, b.Points) && slices.Equal(a.Flanks, b.Flanks) && slices.Equal(a.Near, b.Near) &&
		a.Distance == b.Distance && a.Timer == b.Timer
}

func same(a, b api.Table) bool {
	return slices.Equal(a.Names, b.Names) && slices.Equal(a.Points, b.Points) && slices.Equal(a.Signals, b.Signals) &&
		a.Settle == b.Settle && slices.EqualFunc(a.Routes, b.Routes, sameRoute) && slices.EqualFunc(a.Bars, b.Bars, slices.Equal)
}

func answers(t *testing.T, p api.Plan, want api.Table) {
	t.Helper()
	if got, err := table.Make(p); err != api.OK || !same(got, want) {
		t.Errorf("Make = %+v, %d, want %+v, 0", got, err, want)
	}
}

func fails(t *testing.T, p api.Plan, want api.Errno) {
	t.Helper()
	if got, err := table.Make(p); err != want || !same(got, api.Table{}) {
		t.Errorf("Make = %+v, %d, want none, %d", got, err, want)
	}
}

func right(t *testing.T, x api.Table, want bool) {
	t.Helper()
	if got := table.Right(x); got != want {
		t.Errorf("Right = %t, want %t, of %+v", got, want, x)
	}
}

// steps gives steps that are told as section, from, to; section, from, to; and so on.
func steps(numbers ...int) []api.Step {
	var l []api.Step
	for x := range slices.Chunk(numbers, 3) {
		l = append(l, api.Step{Section: x[0], From: x[1], To: x[2]})
	}
	return l
}

// points gives demands that are told as point, position; point, position; and so on.
func points(numbers ...int) []api.Demand {
	var l []api.Demand
	for x := range slices.Chunk(numbers, 2) {
		l = append(l, api.Demand{Point: x[0], Position: x[1]})
	}
	return l
}

// by gives a route by its parts. Its timer is that of the document's station, where no distance adds to the hold.
func by(entry, exit int, steps, behind []api.Step, points []api.Demand, flanks, sections []int, distance int) api.Route {
	return api.Route{Entry: entry, Exit: exit, Steps: steps, Lap: behind, Points: points, Flanks: flanks, Near: sections, Distance: distance, Timer: 1}
}

// sets gives sets of one word each, of rows in which X is a route that is barred.
func sets(rows ...string) [][]uint32 {
	l := make([][]uint32, 0, len(rows))
	for _, row := range rows {
		word := uint32(0)
		for i, c := range row {
			if c == 'X' {
				word += 1 << i
			}
		}
		l = append(l, []uint32{word})
	}
	return l
}

// byHand is the table of the document's station.
func byHand() api.Table {
	return api.Table{
		Names:   []string{"E", "F", "P", "Q", "T", "U", "V", "W"},
		Points:  []bool{false, false, true, true, false, false, false, false},
		Signals: []string{"A", "B", "C", "D", "G", "H", "I", "J"},
		Settle:  2,
		Routes: []api.Route{
			by(0, 1, steps(2, 0, 1, 4, 0, 1), steps(3, 1, 0), points(2, 1, 3, 1), []int{2, 5}, []int{6, 7}, 17000),
			by(0, 2, steps(2, 0, 2, 5, 0, 1), steps(3, 2, 0), points(2, 2, 3, 2), []int{1, 4}, []int{6, 7}, 17000),
			by(1, -1, steps(3, 1, 0, 0, 0, 1, 1, 0, 1), nil, points(3, 1), []int{2}, []int{2, 4, 7}, 21000),
			by(2, -1, steps(3, 2, 0, 0, 0, 1, 1, 0, 1), nil, points(3, 2), []int{1}, []int{2, 5, 7}, 21000),
			by(3, 4, steps(3, 0, 1, 4, 1, 0), steps(2, 1, 0), points(2, 1, 3, 1), []int{2, 5}, []int{0, 1}, 17000),
			by(3, 5, steps(3, 0, 2, 5, 1, 0), steps(2, 2, 0), points(2, 2, 3, 2), []int{1, 4}, []int{0, 1}, 17000),
			by(4, -1, steps(2, 1, 0, 7, 1, 0, 6, 1, 0), nil, points(2, 1), []int{5}, []int{0, 3, 4}, 21000),
			by(5, -1, steps(2, 2, 0, 7, 1, 0, 6, 1, 0), nil, points(2, 2), []int{4}, []int{0, 3, 5}, 21000),
			by(6, 0, steps(7, 0, 1), steps(2, 0, 1), points(2, 1), []int{5}, []int{6}, 8000),
			by(7, 3, steps(0, 1, 0), steps(3, 0, 1), points(3, 1), []int{2}, []int{1}, 8000),
		},
		Bars: sets(
			".X.XXXXX.X",
			"X.X.XXXXXX",
			".X.XXX...X",
			"X.X.XX...X",
			"XXXX.X.XX.",
			"XXXXX.X.XX",
			"XX...X.XX.",
			"XX..X.X.X.",
			".X..XXXX..",
			"XXXX.X....",
		),
	}
}

// P15.1: the document's station.

func TestTableOfTheStation(t *testing.T) {
	answers(t, build(t, station), byHand())
	right(t, byHand(), true)
}

// In whatever order its lines come, sections ahead of what names them.
func TestLinesInAnyOrder(t *testing.T) {
	l, _ := sheet.Parse(station)
	slices.SortStableFunc(l, func(a, b api.Item) int {
		if a.Name != "" && b.Name != "" && a.Kind <= api.LinePoint == (b.Kind <= api.LinePoint) {
			return strings.Compare(b.Name, a.Name)
		}
		return a.Kind - b.Kind
	})
	p, f := plan.Build(l)
	if f != (api.Fault{}) {
		t.Fatalf("%+v", f)
	}
	answers(t, p, byHand())
}

// Settle is the station's, and nothing else hangs on it; a plan's may be greater than a text's.
func TestSettleIsTheStations(t *testing.T) {
	p := build(t, station)
	for _, p.Settle = range []int{0, 1, 2, 3, 255, 256, api.MaxTicks - 1, api.MaxTicks, api.MaxTicks + 1, 1 << 16, 1 << 32, endless} {
		want := byHand()
		want.Settle = p.Settle
		answers(t, p, want)
	}
}

// The other numbers are in the routes alone.
func TestNumbersOfTheRoutes(t *testing.T) {
	p := build(t, station)
	p.Overlap, p.Approach, p.Hold = 0, 0, 7
	x := made(t, p)
	want := byHand()
	want.Routes, _ = route.All(p)
	want.Bars = clash.Matrix(want.Routes)
	if !same(x, want) {
		t.Errorf("Make = %+v, want %+v", x, want)
	}
	r := x.Routes[0]
	if len(r.Lap) != 0 || len(r.Near) != 0 || r.Distance != 0 || r.Timer != 7 {
		t.Errorf("%+v", r)
	}
	right(t, x, true)
}

// P15.1: few, and many.

func TestStationsOfNothing(t *testing.T) {
	answers(t, api.Plan{}, api.Table{})
	answers(t, build(t, ""), api.Table{})
	answers(t, build(t, "overlap 1\napproach 2\nsettle 3\nhold 4\n"), api.Table{Settle: 3})
}

func TestStationsWithoutRoutes(t *testing.T) {
	answers(t, build(t, "section W 1\nbuffer W.a\nbuffer W.b\n"), api.Table{Names: []string{"W"}, Points: []bool{false}})
	answers(t, build(t, "point W 1\nbuffer W.t\nbuffer W.n\nbuffer W.r\n"), api.Table{Names: []string{"W"}, Points: []bool{true}})
	answers(t, build(t, "section W 1\njoin W.a W.b\nsignal A W.b\n"), api.Table{Names: []string{"W"}, Points: []bool{false}, Signals: []string{"A"}})
}

func TestStationWithOneRoute(t *testing.T) {
	answers(t, build(t, "section W 1\nsection V 2\njoin W.b V.a\nbuffer W.a\nbuffer V.b\nsignal A W.b\n"), api.Table{
		Names:   []string{"V", "W"},
		Points:  []bool{false, false},
		Signals: []string{"A"},
		Routes:  []api.Route{{Entry: 0, Exit: -1, Steps: steps(0, 0, 1)}},
		Bars:    [][]uint32{{0}},
	})
}

// Names stand by their bytes, and sections' and signals' don't mix.
func TestOrderOfNames(t *testing.T) {
	x := &example.Layout{}
	x.Plain("b", "a", "Z", "10", "9", "aa")
	x.Point("A", "8", "c")
	x.Join("b.a", "b.b")
	x.Join("a.a", "c.t")
	x.Post("b", "b.a")
	x.Post("B", "b.b")
	x.Post("7", "c.t")
	got := made(t, build(t, x.Text()))
	if !slices.Equal(got.Names, []string{"10", "8", "9", "A", "Z", "a", "aa", "b", "c"}) {
		t.Errorf("names %q", got.Names)
	}
	if !slices.Equal(got.Points, []bool{false, true, false, true, false, false, false, false, true}) {
		t.Errorf("points %t", got.Points)
	}
	if !slices.Equal(got.Signals, []string{"7", "B", "b"}) {
		t.Errorf("signals %q", got.Signals)
	}
	right(t, got, true)
}

// lead lays a section with a signal, and behind it as many toes, one behind the other, as double its ways.
func lead(x *example.Layout, name string, doublings int) {
	x.Plain("W" + name)
	from := "W" + name + ".b"
	x.Post(name, from)
	if doublings == 0 {
		x.Row(from, 1)
		return
	}
	x.Fork(x.Diamonds(from, doublings-1))
}

// leads lays a signal for each, whose ways double so often.
func leads(t *testing.T, doublings ...int) api.Plan {
	t.Helper()
	x := &example.Layout{}
	for i, n := range doublings {
		lead(x, string(rune('A'+i)), n)
	}
	return build(t, x.Text())
}

func TestAsManyRoutesAsThereMayBe(t *testing.T) {
	for _, doublings := range [][]int{{4, 3, 2}, {4, 3, 2, 0}, {4, 3, 2, 1}, {1, 2, 3, 4}} {
		p := leads(t, doublings...)
		x := made(t, p)
		l, _ := route.All(p)
		if len(x.Routes) != len(l) || !slices.EqualFunc(x.Routes, l, sameRoute) || !slices.EqualFunc(x.Bars, clash.Matrix(l), slices.Equal) {
			t.Errorf("%d routes, want %d", len(x.Routes), len(l))
		}
		right(t, x, true)
	}
	fails(t, leads(t, 4, 3, 2, 1, 0), api.ErrLarge)
	fails(t, leads(t, 5), api.ErrLarge)
}

// As many sections, and signals, as there may be: a ring in which each second section has one.
func TestAsManySectionsAndSignalsAsThereMayBe(t *testing.T) {
	text, names, signals := "settle 1000\n", []string{}, []string{}
	for i := range api.MaxSections {
		name := "s" + string(rune('A'+i)) + "234567"
		names = append(names, name)
		text += "section " + name + " 1099511627776\n"
	}
	for i, name := range names {
		text += "join " + name + ".b " + names[(i+1)%len(names)] + ".a\n"
		if i%2 == 0 {
			text += "signal " + name + " " + name + ".b\n"
			signals = append(signals, name)
		}
	}
	p := build(t, "overlap 1\napproach 1099511627776\nhold 1000\n"+text)
	x := made(t, p)
	if !slices.Equal(x.Names, names) || !slices.Equal(x.Points, make([]bool, 24)) || !slices.Equal(x.Signals, signals) || x.Settle != 1000 || len(x.Routes) != 12 {
		t.Errorf("%+v", x)
	}
	right(t, x, true)
	p.Approach = endless
	x = made(t, p)
	if r := x.Routes[0]; r.Distance != 24<<40 || r.Timer != 1000+24<<40/100000 {
		t.Errorf("%+v", r)
	}
	right(t, x, true)
}

// Errors of Make: layer 12's All's.

func TestTooLong(t *testing.T) {
	x := &example.Layout{}
	x.Plain("W")
	x.Post("A", "W.b")
	last := x.Row("W.b", api.MaxSteps)
	p := build(t, x.Text())
	right(t, made(t, p), true)
	x.Row(last, 1)
	fails(t, build(t, x.Text()), api.ErrLong)
	// too many sections entered: each of seven pairs of points doubles them
	y := &example.Layout{}
	y.Plain("W")
	y.Post("A", "W.b")
	y.Ring(y.Diamonds("W.b", 7))
	fails(t, build(t, y.Text()), api.ErrLong)
}

// An overlap may take too long where no way does.
func TestOverlapTooLong(t *testing.T) {
	x := &example.Layout{}
	x.Plain("W", "V", "U")
	x.Post("A", "W.b")
	x.Join("W.b", "V.a")
	x.Post("B", "V.b")
	last := x.Diamonds("V.b", 4)
	x.Join(last, "U.a")
	x.Post("C", last)
	x.Row(x.Diamonds("U.b", 3), 2)
	p := build(t, x.Text())
	made(t, p)
	p.Overlap = endless
	fails(t, p, api.ErrLong)
}

// P15.1: tables that may be, or not, by hand.

// hand gives a table of two routes, with room for more of all.
func hand() api.Table {
	x := api.Table{
		Names:   []string{"a", "b", "p", "q", "r", "s", "t"},
		Points:  []bool{false, false, true, true, true, false, false},
		Signals: []string{"A", "B", "C", "D"},
		Settle:  5,
		Routes: []api.Route{
			{Entry: 1, Exit: 2, Steps: steps(0, 0, 1, 2, 0, 2, 1, 1, 0), Lap: steps(3, 1, 0, 5, 0, 1), Points: points(2, 2, 3, 1), Flanks: []int{0, 3}, Near: []int{2, 4, 6}, Distance: 7, Timer: 8},
			{Entry: 2, Exit: -1, Steps: steps(4, 2, 0), Points: points(2, 1, 4, 2)},
		},
	}
	return sealed(x)
}

// sealed gives a table with the matrix of its routes.
func sealed(x api.Table) api.Table {
	x.Bars = clash.Matrix(x.Routes)
	return x
}

// turned holds a table with one thing changed, and its matrix as it must be then.
func turned(t *testing.T, want bool, change func(x *api.Table)) {
	t.Helper()
	x := hand()
	change(&x)
	right(t, sealed(x), want)
}

// routeTurned holds a table in which the first route has one thing changed.
func routeTurned(t *testing.T, want bool, change func(r *api.Route)) {
	t.Helper()
	turned(t, want, func(x *api.Table) { change(&x.Routes[0]) })
}

func TestTableByHand(t *testing.T) {
	turned(t, true, func(*api.Table) {})
	right(t, api.Table{}, true)
	right(t, api.Table{Names: []string{}, Points: []bool{}, Signals: []string{}, Routes: []api.Route{}, Bars: [][]uint32{}}, true)
}

// names gives so many, rising.
func names(n int) []string {
	var l []string
	for i := range n {
		l = append(l, "s"+strconv.Itoa(100+i))
	}
	return l
}

func TestHowManyNames(t *testing.T) {
	for _, n := range []int{0, 1, 2, 23, 24, 25, 26, 48, 256, 257, 280} {
		right(t, api.Table{Names: names(n), Points: make([]bool, n)}, n <= 24)
		right(t, api.Table{Signals: names(n)}, n <= 12)
		// as many points as names
		right(t, api.Table{Names: names(n), Points: make([]bool, n+1)}, false)
		right(t, api.Table{Names: names(n + 1), Points: make([]bool, n)}, false)
		right(t, api.Table{Points: make([]bool, n)}, n == 0)
	}
	right(t, api.Table{Signals: names(12)}, true)
	right(t, api.Table{Signals: names(13)}, false)
	right(t, api.Table{Names: names(24), Points: slices.Repeat([]bool{true}, 24), Signals: names(12)}, true)
	// room behind the names is none of them
	right(t, api.Table{Names: names(30)[:24], Points: make([]bool, 30)[:24], Signals: names(30)[:12]}, true)
}

func TestNamesThatMayBe(t *testing.T) {
	for s, want := range map[string]bool{
		"":                       false,
		"a":                      true,
		"Z":                      true,
		"0":                      true,
		"12345678":               true,
		"123456789":              false,
		"zzzzzzzz":               true,
		"zzzzzzzzz":              false,
		" ":                      false,
		"a b":                    false,
		"a.b":                    false,
		"a_b":                    false,
		"-a":                     false,
		"a\n":                    false,
		"\x00":                   false,
		"a\x80":                  false,
		"\u00e4":                 false,
		"\xff":                   false,
		strings.Repeat("a", 264): false,
	} {
		right(t, api.Table{Names: []string{s}, Points: []bool{false}}, want)
		right(t, api.Table{Signals: []string{s}}, want)
		// behind one that may be
		right(t, api.Table{Names: []string{"00", s}, Points: []bool{false, true}}, want && s > "00")
		right(t, api.Table{Signals: []string{"00", s}}, want && s > "00")
	}
}

func TestNamesRise(t *testing.T) {
	for _, x := range []struct {
		names []string
		want  bool
	}{
		{[]string{"a", "b"}, true},
		{[]string{"b", "a"}, false},
		{[]string{"a", "a"}, false},
		{[]string{"Z", "a"}, true},
		{[]string{"a", "Z"}, false},
		{[]string{"10", "9"}, true},
		{[]string{"9", "10"}, false},
		{[]string{"a", "aa"}, true},
		{[]string{"aa", "a"}, false},
		{[]string{"9", "A", "a"}, true},
		{[]string{"a", "b", "c", "c"}, false},
		{[]string{"a", "c", "b", "d"}, false},
		{[]string{"a", "b", "a"}, false},
		{[]string{"b", "c", "a"}, false},
		{[]string{"a", "a", "b"}, false},
		{[]string{"abcdefgh", "abcdefgi"}, true},
		{[]string{"abcdefgi", "abcdefgh"}, false},
	} {
		right(t, api.Table{Names: x.names, Points: make([]bool, len(x.names))}, x.want)
		right(t, api.Table{Signals: x.names}, x.want)
		// a section and a signal may have one name
		right(t, api.Table{Names: x.names, Points: make([]bool, len(x.names)), Signals: x.names}, x.want)
	}
}

func TestSettleThatMayBe(t *testing.T) {
	for _, n := range append([]int{-1, 0, 1, 999, 1000, 1001, 1 << 16}, strange...) {
		turned(t, n >= 0 && n <= 1000, func(x *api.Table) { x.Settle = n })
		right(t, api.Table{Settle: n}, n >= 0 && n <= 1000)
	}
}

// lone gives a table of as many sections and signals as there may be, of which the sections 16 and above are points, with so many routes from its signals on, each through a section.
func lone(n int) api.Table {
	x := api.Table{Names: names(24), Points: make([]bool, 24), Signals: names(12)}
	for i := range 8 {
		x.Points[16+i] = true
	}
	for i := range n {
		x.Routes = append(x.Routes, api.Route{Entry: i * 12 / n, Exit: -1, Steps: steps(i%16, 0, 1)})
	}
	return sealed(x)
}

func TestHowManyRoutes(t *testing.T) {
	for _, n := range []int{0, 1, 2, 29, 30, 31, 32, 33, 64, 256, 257} {
		right(t, lone(n), n <= 30)
	}
	// room behind the routes is none of them
	x := lone(40)
	x.Routes = x.Routes[:30]
	right(t, sealed(x), true)
}

// Far too many routes, or ones that are far too long, aren't looked at two by two.
func TestFarTooMany(t *testing.T) {
	x := lone(1)
	x.Routes = slices.Repeat(x.Routes, 1<<20)
	x.Bars = slices.Repeat(x.Bars, 1<<20)
	right(t, x, false)
	y := lone(1)
	y.Routes[0].Steps = slices.Repeat(y.Routes[0].Steps, 1<<20)
	right(t, y, false)
	z := lone(2)
	for i := range z.Routes {
		z.Routes[i].Lap = slices.Repeat(steps(5+i, 0, 1), 1<<20)
	}
	right(t, z, false)
}

func TestEntriesThatMayBe(t *testing.T) {
	for _, n := range append([]int{-1, 0, 1, 2, 3, 4, 5, 12}, strange...) {
		turned(t, n >= 0 && n <= 2, func(x *api.Table) { x.Routes[0].Entry = n })
		turned(t, n >= 1 && n <= 3, func(x *api.Table) { x.Routes[1].Entry = n })
	}
	// without signals there is none
	x := hand()
	for _, n := range append([]int{-1, 0, 1}, strange...) {
		right(t, sealed(api.Table{Names: x.Names, Points: x.Points, Routes: []api.Route{{Entry: n, Exit: -1, Steps: steps(0, 0, 1)}}}), false)
	}
	right(t, sealed(api.Table{Names: x.Names, Points: x.Points, Signals: x.Signals[:1], Routes: []api.Route{{Entry: 0, Exit: -1, Steps: steps(0, 0, 1)}}}), true)
}

func TestEntriesDontFall(t *testing.T) {
	for _, x := range []struct {
		entries []int
		want    bool
	}{
		{[]int{0, 0}, true},
		{[]int{0, 3}, true},
		{[]int{3, 0}, false},
		{[]int{0, 1, 1, 2, 3, 3}, true},
		{[]int{0, 1, 0, 2}, false},
		{[]int{0, 1, 2, 1}, false},
		{[]int{1, 0, 2, 3}, false},
		{[]int{3, 3, 3}, true},
	} {
		y := hand()
		y.Routes = nil
		for _, n := range x.entries {
			y.Routes = append(y.Routes, api.Route{Entry: n, Exit: -1, Steps: steps(0, 0, 1)})
		}
		right(t, sealed(y), x.want)
	}
}

// Of routes from one signal any may be ahead, and two may be alike.
func TestRoutesOfOneSignalInAnyOrder(t *testing.T) {
	for _, exits := range [][]int{{-1, 0, 3}, {3, 0, -1}, {2, 2, 2}, {1, -1, 1}} {
		y := hand()
		y.Routes = nil
		for _, n := range exits {
			y.Routes = append(y.Routes, api.Route{Entry: 1, Exit: n, Steps: steps(0, 0, 1)})
		}
		right(t, sealed(y), true)
	}
}

func TestExitsThatMayBe(t *testing.T) {
	for _, n := range append([]int{-3, -1, 0, 1, 2, 3, 4, 5, 12}, strange...) {
		routeTurned(t, n >= -1 && n <= 3, func(r *api.Route) { r.Exit = n })
	}
}

// P15.1: steps, and overlaps.

// both holds steps as a route's Steps, and as its Lap; none may be a Lap alone.
func both(t *testing.T, l []api.Step, want bool) {
	t.Helper()
	x := lone(1)
	x.Points[0], x.Points[1] = true, true
	x.Routes[0] = api.Route{Entry: 1, Exit: 2, Steps: l, Points: demands(x, l)}
	right(t, sealed(x), want && len(l) > 0)
	// section 15 is in none of them
	x.Routes[0] = api.Route{Entry: 1, Exit: 2, Steps: steps(15, 0, 1), Lap: l, Points: demands(x, l)}
	right(t, sealed(x), want)
}

// demands gives what asks for a table's points as they are gone through.
func demands(x api.Table, l []api.Step) []api.Demand {
	var all []api.Demand
	for _, s := range l {
		if s.Section >= 0 && s.Section < len(x.Points) && x.Points[s.Section] {
			all = append(all, api.Demand{Point: s.Section, Position: max(s.From, s.To)})
		}
	}
	slices.SortFunc(all, func(a, b api.Demand) int { return a.Point - b.Point })
	return slices.Compact(all)
}

func TestStepsThatMayBe(t *testing.T) {
	all := append([]int{-1, 0, 1, 2, 3}, strange...)
	for _, from := range all {
		for _, to := range all {
			plain := from == 0 && to == 1 || from == 1 && to == 0
			point := plain || from == 0 && to == 2 || from == 2 && to == 0
			both(t, steps(7, from, to), plain)
			both(t, steps(16, from, to), point)
			both(t, steps(8, 1, 0, 7, from, to), plain)
			both(t, steps(16, from, to, 8, 0, 1), point)
		}
	}
}

func TestSectionsOfSteps(t *testing.T) {
	for _, n := range append([]int{-1, 0, 1, 14, 16, 22, 23, 24, 25}, strange...) {
		both(t, steps(n, 0, 1), n >= 0 && n < 24)
		both(t, steps(8, 0, 1, n, 1, 0), n >= 0 && n < 24)
	}
	// without sections there is none
	for _, n := range append([]int{-1, 0, 1}, strange...) {
		right(t, sealed(api.Table{Signals: names(1), Routes: []api.Route{{Exit: -1, Steps: steps(n, 0, 1)}}}), false)
	}
}

func TestUnlikeSections(t *testing.T) {
	both(t, nil, true)
	both(t, []api.Step{}, true)
	both(t, steps(3, 0, 1, 2, 0, 1, 1, 0, 1), true)
	both(t, steps(3, 0, 1, 3, 0, 1), false)
	both(t, steps(3, 0, 1, 3, 1, 0), false)
	both(t, steps(3, 0, 1, 4, 0, 1, 3, 1, 0), false)
	both(t, steps(4, 0, 1, 3, 0, 1, 3, 1, 0), false)
	both(t, steps(16, 0, 1, 16, 1, 0), false)
	both(t, steps(16, 0, 1, 3, 0, 1, 16, 1, 0), false)
	both(t, steps(16, 2, 0, 3, 0, 1, 16, 0, 2), false)
}

func TestHowManySteps(t *testing.T) {
	var rise, fall, points []api.Step
	for i := range 23 {
		n := i + i/15 // all but 15
		rise = append(rise, api.Step{Section: n, From: 0, To: 1})
		fall = append([]api.Step{{Section: n, From: 1, To: 0}}, fall...)
	}
	for i := range 8 {
		points = append(points, api.Step{Section: 16 + i, From: 0, To: 1 + i%2})
	}
	for _, n := range []int{1, 2, 15, 16, 17, 18, 23} {
		both(t, rise[:n], n <= 16)
		both(t, fall[:n], n <= 16)
	}
	both(t, slices.Concat(points, rise[:8]), true)
	both(t, slices.Concat(points, rise[:9]), false)
	// so many of the one and so many of the other
	x := lone(1)
	x.Points = make([]bool, 24)
	for i := range 24 {
		for _, k := range []int{0, 1, 7, 8, 15, 16} {
			if i+k > 24 || i == 0 {
				continue
			}
			l := make([]api.Step, i+k)
			for j := range l {
				l[j] = api.Step{Section: j, From: 1, To: 0}
			}
			x.Routes[0].Steps, x.Routes[0].Lap = l[:i], l[i:]
			right(t, sealed(x), i <= 16)
		}
	}
}

// A Lap is none of the Steps' sections; it needn't lie behind them.
func TestLapApartFromSteps(t *testing.T) {
	for i := range 3 {
		for j := range 3 {
			x := lone(1)
			r := &x.Routes[0]
			r.Steps, r.Lap = steps(1, 0, 1, 2, 0, 1, 3, 0, 1), steps(4, 0, 1, 5, 0, 1, 6, 0, 1)
			right(t, sealed(x), true)
			r.Lap[j] = r.Steps[i]
			right(t, sealed(x), false)
			r.Lap[j].From, r.Lap[j].To = 1, 0
			right(t, sealed(x), false)
		}
	}
	// without an exit, or without Near, it may be as well
	routeTurned(t, true, func(r *api.Route) { r.Exit = -1 })
	routeTurned(t, true, func(r *api.Route) { r.Near = nil })
}

// P15.1: points.

func TestPointsOfARoute(t *testing.T) {
	for _, x := range []struct {
		asked []api.Demand
		want  bool
	}{
		// it goes through 2 in position 2, and its overlap through 3 in position 1
		{points(2, 2, 3, 1), true},
		{nil, false},
		{points(2, 2), false},
		{points(3, 1), false},
		{points(2, 1, 3, 1), false},
		{points(2, 2, 3, 2), false},
		{points(2, 1, 3, 2), false},
		// 4 is one more
		{points(2, 2, 3, 1, 4, 1), true},
		{points(2, 2, 3, 1, 4, 2), true},
		{points(2, 2, 3, 1, 4, 0), false},
		{points(2, 2, 3, 1, 4, 3), false},
		{points(2, 2, 3, 1, 4, -1), false},
		{points(2, 2, 4, 1), false},
		{points(3, 1, 4, 1), false},
		{points(2, 2, 3, 0), false},
		{points(2, 0, 3, 1), false},
		// out of order, or twice
		{points(3, 1, 2, 2), false},
		{points(2, 2, 4, 1, 3, 1), false},
		{points(4, 1, 2, 2, 3, 1), false},
		{points(2, 2, 2, 2, 3, 1), false},
		{points(2, 2, 2, 1, 3, 1), false},
		{points(2, 1, 2, 2, 3, 1), false},
		{points(2, 2, 3, 1, 3, 1), false},
		{points(2, 2, 3, 1, 3, 2), false},
		{points(2, 2, 3, 1, 4, 1, 4, 1), false},
		{points(2, 2, 3, 1, 4, 1, 4, 2), false},
		// of plain sections, or none
		{points(0, 1, 2, 2, 3, 1), false},
		{points(1, 2, 2, 2, 3, 1), false},
		{points(2, 2, 3, 1, 5, 1), false},
		{points(2, 2, 3, 1, 6, 2), false},
		{points(2, 2, 3, 1, 7, 1), false},
		{points(-1, 1, 2, 2, 3, 1), false},
	} {
		routeTurned(t, x.want, func(r *api.Route) { r.Points = x.asked })
	}
	for _, n := range strange {
		routeTurned(t, false, func(r *api.Route) { r.Points = points(2, 2, 3, 1, n, 1) })
		routeTurned(t, false, func(r *api.Route) { r.Points = points(n, 1, 2, 2, 3, 1) })
		routeTurned(t, false, func(r *api.Route) { r.Points = points(2, 2, 3, 1, 4, n) })
		routeTurned(t, false, func(r *api.Route) { r.Points = points(2, n, 3, 1) })
		routeTurned(t, false, func(r *api.Route) { r.Points = points(2, 2, 3, n) })
	}
}

// Each point of the Steps, and of the Lap, whichever is first, by the greater one of its ends.
func TestPointsAsTheyAreGoneThrough(t *testing.T) {
	for _, ends := range [][2]int{{0, 1}, {1, 0}, {0, 2}, {2, 0}} {
		for position := range 4 {
			for at := range 4 {
				x := lone(1)
				r := &x.Routes[0]
				r.Points = points(16, 1, 17, 2, 18, 1, 19, 2)
				r.Points[at].Position = position
				l := steps(19, 0, 2, 18, 1, 0, 17, 2, 0, 16, 0, 1)
				l[3-at].From, l[3-at].To = ends[0], ends[1]
				want := position == max(ends[0], ends[1])
				for cut := range 3 {
					r.Steps, r.Lap = l[:1+cut], l[1+cut:]
					right(t, sealed(x), want)
				}
				r.Steps, r.Lap = l, nil
				right(t, sealed(x), want)
			}
		}
	}
}

// A point that isn't gone through may be asked for in either position, also if it is a route's alone.
func TestPointsBesideTheWay(t *testing.T) {
	x := lone(1)
	for position := -1; position < 4; position++ {
		for point := 16; point < 24; point++ {
			x.Routes[0].Points = points(point, position)
			right(t, sealed(x), position == 1 || position == 2)
		}
	}
	for point := range 16 {
		x.Routes[0].Points = points(point, 1)
		right(t, sealed(x), false)
	}
}

// P15.1: signals that protect, and sections near.

func TestPlaces(t *testing.T) {
	for _, l := range [][]int{nil, {}, {0}, {3}, {0, 1}, {0, 3}, {0, 1, 2, 3}, {1, 2}} {
		routeTurned(t, true, func(r *api.Route) { r.Flanks = l })
		routeTurned(t, true, func(r *api.Route) { r.Near = l })
	}
	for _, l := range [][]int{{1, 0}, {0, 0}, {3, 3}, {0, 2, 1}, {0, 1, 1}, {1, 1, 2}, {2, 0, 1}, {0, 3, 0}, {-1}, {-1, 0}, {0, -1}} {
		routeTurned(t, false, func(r *api.Route) { r.Flanks = l })
		routeTurned(t, false, func(r *api.Route) { r.Near = l })
	}
	for n := range 10 {
		routeTurned(t, n < 4, func(r *api.Route) { r.Flanks = []int{n} })
		routeTurned(t, n < 7, func(r *api.Route) { r.Near = []int{n} })
	}
	routeTurned(t, true, func(r *api.Route) { r.Near = []int{0, 1, 2, 3, 4, 5, 6} })
	for _, n := range strange {
		for _, l := range [][]int{{n}, {0, n}, {n, 1}} {
			routeTurned(t, false, func(r *api.Route) { r.Flanks = l })
			routeTurned(t, false, func(r *api.Route) { r.Near = l })
		}
	}
	// all there may be
	x := lone(1)
	all := make([]int, 24)
	for i := range all {
		all[i] = i
	}
	x.Routes[0].Flanks, x.Routes[0].Near = all[:12], all
	right(t, sealed(x), true)
	x.Routes[0].Flanks = all[:13]
	right(t, sealed(x), false)
}

// A route's own Entry and Exit, and its own sections, may be among them.
func TestPlacesOfItsOwn(t *testing.T) {
	routeTurned(t, true, func(r *api.Route) { r.Flanks = []int{r.Entry, r.Exit} })
	routeTurned(t, true, func(r *api.Route) { r.Near = []int{0, 1, 2, 3, 5} })
}

// P15.1: numbers of a route.

func TestNumbersThatMayBe(t *testing.T) {
	for _, n := range append([]int{-1, 0, 1, 100000, api.MaxLength, 24 << 40, 1<<48 - 2, 1<<48 - 1, 1 << 48, 1<<48 + 1, 1 << 50, 1<<56 - 1}, strange...) {
		routeTurned(t, n >= 0 && n <= 1<<48-1, func(r *api.Route) { r.Distance = n })
	}
	for _, n := range append([]int{-1, 0, 1, 1001, 1<<31 - 1, 1 << 31, 1<<32 - 2, 1<<32 - 1, 1 << 32, 1<<32 + 1, 1 << 40}, strange...) {
		routeTurned(t, n >= 0 && n <= 1<<32-1, func(r *api.Route) { r.Timer = n })
	}
}

// Each route must be one that may be, not the first one alone.
func TestEachRoute(t *testing.T) {
	for at := range 30 {
		for _, change := range []func(*api.Route){
			func(r *api.Route) { r.Exit = 12 },
			func(r *api.Route) { r.Steps = nil },
			func(r *api.Route) { r.Lap = r.Steps },
			func(r *api.Route) { r.Points = points(0, 1) },
			func(r *api.Route) { r.Flanks = []int{12} },
			func(r *api.Route) { r.Near = []int{24} },
			func(r *api.Route) { r.Distance = -1 },
			func(r *api.Route) { r.Timer = -1 },
		} {
			x := lone(30)
			change(&x.Routes[at])
			right(t, sealed(x), false)
		}
	}
}

// P15.1: the matrix.

func TestEachBitOfTheMatrix(t *testing.T) {
	for i := range 10 {
		for j := range 32 {
			x := byHand()
			x.Bars[i][0] ^= 1 << j
			right(t, x, false)
		}
	}
	for _, n := range []int{1, 29, 30} {
		x := lone(n)
		for i := range n {
			for j := range 32 {
				x.Bars[i][0] ^= 1 << j
				right(t, x, false)
				x.Bars[i][0] ^= 1 << j
			}
		}
		right(t, x, true)
	}
}

func TestShapeOfTheMatrix(t *testing.T) {
	for _, change := range []func(x *api.Table){
		func(x *api.Table) { x.Bars = nil },
		func(x *api.Table) { x.Bars = x.Bars[:1] },
		func(x *api.Table) { x.Bars = x.Bars[1:] },
		func(x *api.Table) { x.Bars = x.Bars[:9] },
		func(x *api.Table) { x.Bars = append(x.Bars, []uint32{0}) },
		func(x *api.Table) { x.Bars = append(x.Bars, nil) },
		func(x *api.Table) { x.Bars = append(x.Bars, x.Bars...) },
		func(x *api.Table) { x.Bars[0] = nil },
		func(x *api.Table) { x.Bars[9] = nil },
		func(x *api.Table) { x.Bars[4] = append(x.Bars[4], 0) },
		func(x *api.Table) { x.Bars[9] = append(x.Bars[9], 7) },
		func(x *api.Table) { x.Bars[0], x.Bars[1] = x.Bars[1], x.Bars[0] },
		func(x *api.Table) { x.Routes = x.Routes[:9] },
		func(x *api.Table) { x.Routes = append(x.Routes, x.Routes[9]) },
		func(x *api.Table) { x.Routes, x.Bars = nil, make([][]uint32, 1) },
	} {
		x := byHand()
		change(&x)
		right(t, x, false)
	}
	// a set of no bits has its word
	x := lone(1)
	right(t, x, true)
	x.Bars = [][]uint32{{}}
	right(t, x, false)
	x.Bars = [][]uint32{nil}
	right(t, x, false)
	right(t, api.Table{Bars: [][]uint32{{0}}}, false)
	right(t, api.Table{Bars: make([][]uint32, 1)}, false)
	// room behind it is none of it
	y := byHand()
	y.Bars = append(y.Bars, []uint32{7})[:10]
	y.Bars[3] = append(y.Bars[3], 7)[:1]
	right(t, y, true)
}

// A matrix may be right for other routes alone: it hangs on Entry, Exit, Steps, Lap and Points.
func TestMatrixOfOtherRoutes(t *testing.T) {
	for i := range 10 {
		x := byHand()
		x.Routes[i].Flanks, x.Routes[i].Near, x.Routes[i].Distance, x.Routes[i].Timer = nil, nil, 0, 0
		right(t, x, true)
	}
	x := byHand()
	x.Routes[0].Exit = -1 // so its overlap bars the one from B
	right(t, x, false)
	right(t, sealed(x), true)
	x = byHand()
	x.Routes[9].Steps = steps(7, 0, 1) // W, that others go through, and E no more
	right(t, x, false)
	right(t, sealed(x), true)
	x = byHand()
	x.Routes[8].Points = points(2, 1, 3, 2) // opposed to the one from A to B
	right(t, x, false)
	right(t, sealed(x), true)
}

// P15.1, P15.2: tables of stations that are drawn, and spoilt.

const letters = "0123456789ABCDEFGHIJKLMNOPQRSTUVWXYZabcdefghijklmnopqrstuvwxyz"

// told is a finder of another make: it sorts, and counts, and holds against what was handed in.
func told(x api.Table) bool {
	if len(x.Names) > 24 || len(x.Signals) > 12 || len(x.Routes) > 30 || len(x.Points) != len(x.Names) || x.Settle != min(max(x.Settle, 0), 1000) {
		return false
	}
	for _, l := range [][]string{x.Names, x.Signals} {
		if !slices.Equal(l, slices.Compact(slices.Sorted(slices.Values(l)))) {
			return false
		}
		for _, s := range l {
			if len(s) == 0 || len(s) > 8 || strings.Trim(s, letters) != "" {
				return false
			}
		}
	}
	var entries []int
	for _, r := range x.Routes {
		if !toldRoute(x, r) {
			return false
		}
		entries = append(entries, r.Entry)
	}
	return slices.IsSorted(entries) && toldBars(x)
}

func toldBars(x api.Table) bool {
	for i, set := range x.Bars {
		word := uint32(0)
		for j, s := range x.Routes {
			if i < len(x.Routes) && i != j && clash.Bars(x.Routes[i], s) {
				word |= 1 << j
			}
		}
		if len(set) != 1 || set[0] != word {
			return false
		}
	}
	return len(x.Bars) == len(x.Routes)
}

func toldRoute(x api.Table, r api.Route) bool {
	signals, sections := map[int]int{-1: 0}, map[int]bool{}
	for i := range x.Signals {
		signals[i] = 1
	}
	for i, point := range x.Points {
		sections[i] = point
	}
	_, exit := signals[r.Exit]
	if signals[r.Entry] != 1 || !exit || len(r.Steps) < 1 || len(r.Steps) > 16 || len(r.Lap) > 16 {
		return false
	}
	own := map[int]int{}
	forms := map[[2]int]bool{{0, 1}: false, {1, 0}: false, {0, 2}: true, {2, 0}: true}
	for _, s := range slices.Concat(r.Lap, r.Steps) {
		point, there := sections[s.Section]
		pointed, form := forms[[2]int{s.From, s.To}]
		if !there || !form || pointed && !point {
			return false
		}
		own[s.Section] = s.From + s.To
	}
	if len(own) != len(r.Steps)+len(r.Lap) || r.Distance>>48 != 0 || r.Timer>>32 != 0 {
		return false
	}
	asked := map[int]int{}
	var pointed []int
	for _, d := range r.Points {
		if !sections[d.Point] || (d.Position-1)>>1 != 0 {
			return false
		}
		asked[d.Point] = d.Position
		pointed = append(pointed, d.Point)
	}
	for section, position := range own {
		if sections[section] && asked[section] != position {
			return false
		}
	}
	for l, most := range map[*[]int]int{&pointed: len(x.Names), &r.Flanks: len(x.Signals), &r.Near: len(x.Names)} {
		if !slices.Equal(*l, slices.Compact(slices.Sorted(slices.Values(*l)))) || slices.ContainsFunc(*l, func(n int) bool { return n < 0 || n >= most }) {
			return false
		}
	}
	return true
}

// held holds that a table is the station's, part by part, and that it may be.
func held(t *testing.T, p api.Plan) (api.Table, bool) {
	t.Helper()
	l, fault := route.All(p)
	x, err := table.Make(p)
	if err != fault {
		t.Errorf("Make: error %d, want %d, of %+v", err, fault, p)
	}
	if fault != api.OK {
		if !same(x, api.Table{}) {
			t.Errorf("Make = %+v beside an error, of %+v", x, p)
		}
		return x, false
	}
	want := api.Table{Settle: p.Settle, Routes: l, Bars: clash.Matrix(l)}
	for i, s := range p.Sections {
		want.Names = slices.Insert(want.Names, i, s.Name)
		want.Points = slices.Insert(want.Points, i, s.Point)
	}
	for i, s := range p.Signals {
		want.Signals = slices.Insert(want.Signals, i, s.Name)
	}
	if !same(x, want) {
		t.Errorf("Make = %+v, want %+v, of %+v", x, want, p)
	}
	if !told(x) {
		t.Errorf("a table that may not be by the other finder: %+v", x)
	}
	right(t, x, true)
	return x, true
}

// drawn draws a station, with numbers and lengths as a text may tell.
func drawn(t *testing.T, r *rand.Rand, sections int) api.Plan {
	t.Helper()
	points := r.Intn(sections + 1)
	ends := 2*sections + points
	p := build(t, example.Drawn(r.Intn, points, sections-points, ends/2-r.Intn(3), r.Intn(api.MaxSignals+1)))
	most := []int{1, 3, 1000, 90000, api.MaxLength}[r.Intn(5)]
	for i := range p.Sections {
		p.Sections[i].Length = 1 + r.Intn(most)
	}
	number := func() int { return []int{0, 1, 1 + r.Intn(most), api.MaxLength}[r.Intn(4)] }
	p.Overlap, p.Approach, p.Settle, p.Hold = number(), number(), r.Intn(1001), r.Intn(1001)
	return p
}

func TestDrawnStations(t *testing.T) {
	r := rand.New(rand.NewSource(31))
	few, many, none := 0, 0, 0
	for range 6000 {
		x, ok := held(t, drawn(t, r, 1+r.Intn(api.MaxSections)))
		switch {
		case !ok:
			none++
		case len(x.Routes) < 6:
			few++
		default:
			many++
		}
		if t.Failed() {
			return
		}
	}
	if few < 500 || many < 500 || none < 50 {
		t.Errorf("too few of a kind: %d, %d, %d", few, many, none)
	}
}

// number draws a number about those from 0 on, below n, or now and then a strange one.
func number(r *rand.Rand, n int) int {
	if r.Intn(6) == 0 {
		return strange[r.Intn(len(strange))]
	}
	return r.Intn(n+3) - 1
}

// spoil gives a list with one thing changed: less one, one twice, two the other way round, one more, or another one.
func spoil[T any](r *rand.Rand, l []T, draw func() T) []T {
	l = slices.Clone(l)
	if len(l) == 0 {
		return append(l, draw())
	}
	i, j := r.Intn(len(l)), r.Intn(len(l))
	switch r.Intn(5) {
	case 0:
		return slices.Delete(l, i, i+1)
	case 1:
		return slices.Insert(l, j, l[i])
	case 2:
		l[i], l[j] = l[j], l[i]
	case 3:
		return slices.Insert(l, i, draw())
	default:
		l[i] = draw()
	}
	return l
}

// name draws a name, that now and then may be none.
func name(r *rand.Rand) string {
	s := ""
	for range r.Intn(10) {
		s += string(letters[r.Intn(len(letters))])
	}
	if r.Intn(4) == 0 {
		s += string(rune(r.Intn(256)))
	}
	return s
}

// spoilt gives a route with one thing changed.
func spoilt(r *rand.Rand, x api.Table, y api.Route) api.Route {
	sections, signals := len(x.Names), len(x.Signals)
	step := func() api.Step {
		return api.Step{Section: number(r, sections), From: r.Intn(3), To: r.Intn(3)}
	}
	switch r.Intn(12) {
	case 0:
		y.Entry = number(r, signals)
	case 1:
		y.Exit = number(r, signals)
	case 2:
		y.Steps = spoil(r, y.Steps, step)
	case 3:
		y.Lap = spoil(r, y.Lap, step)
	case 4, 5:
		y.Points = spoil(r, y.Points, func() api.Demand { return api.Demand{Point: number(r, sections), Position: r.Intn(4)} })
	case 6:
		y.Flanks = spoil(r, y.Flanks, func() int { return number(r, signals) })
	case 7:
		y.Near = spoil(r, y.Near, func() int { return number(r, sections) })
	case 8:
		y.Distance = number(r, 4)
	case 9:
		y.Timer = number(r, 4)
	case 10:
		y.Steps = slices.Clone(y.Steps)
		s := &y.Steps[r.Intn(len(y.Steps))]
		s.From, s.To = s.To, s.From
	default:
		y.Steps = slices.Clone(y.Steps)
		s := &y.Steps[r.Intn(len(y.Steps))]
		s.From, s.To = r.Intn(4)-r.Intn(2), r.Intn(4)-r.Intn(2)
	}
	return y
}

// spoiltTable gives a table with one thing changed.
func spoiltTable(r *rand.Rand, x api.Table) api.Table {
	switch r.Intn(8) {
	case 0:
		x.Names = spoil(r, x.Names, func() string { return name(r) })
	case 1:
		x.Points = spoil(r, x.Points, func() bool { return r.Intn(2) == 0 })
	case 2:
		x.Signals = spoil(r, x.Signals, func() string { return name(r) })
	case 3:
		x.Settle = number(r, 1000)
	case 4:
		x.Routes = spoil(r, x.Routes, func() api.Route { return api.Route{Entry: number(r, 2), Exit: -1, Steps: steps(0, 0, 1)} })
	default:
		if len(x.Routes) > 0 {
			x.Routes = slices.Clone(x.Routes)
			i := r.Intn(len(x.Routes))
			if len(x.Routes[i].Steps) > 0 {
				x.Routes[i] = spoilt(r, x, x.Routes[i])
			}
		}
	}
	return x
}

// spoiltBars gives a table whose matrix has one thing changed, if it has a set.
func spoiltBars(r *rand.Rand, x api.Table) api.Table {
	if len(x.Bars) == 0 {
		return x
	}
	i := r.Intn(len(x.Bars))
	x.Bars = slices.Clone(x.Bars)
	if r.Intn(2) == 0 && len(x.Bars[i]) > 0 {
		x.Bars[i] = []uint32{x.Bars[i][0] ^ 1<<r.Intn(32)}
		return x
	}
	x.Bars = spoil(r, x.Bars, func() []uint32 { return []uint32{r.Uint32()} })
	return x
}

func TestSpoiltTables(t *testing.T) {
	r := rand.New(rand.NewSource(32))
	yes, no := 0, 0
	for range 800 {
		x, err := table.Make(drawn(t, r, 1+r.Intn(8)))
		if err != api.OK {
			continue
		}
		for range 60 {
			y := x
			for range 1 + r.Intn(2) {
				y = spoiltTable(r, y)
			}
			if r.Intn(8) > 0 {
				y = sealed(y)
			}
			if r.Intn(8) == 0 {
				y = spoiltBars(r, y)
			}
			want := told(y)
			right(t, y, want)
			if want {
				yes++
			} else {
				no++
			}
		}
		if t.Failed() {
			return
		}
	}
	if yes < 5000 || no < 5000 {
		t.Errorf("%d may be, %d may not", yes, no)
	}
}

// Tables of nothing but what is drawn.
func TestStrangeTables(t *testing.T) {
	r := rand.New(rand.NewSource(33))
	numbers := func(n int) []int {
		var l []int
		for range r.Intn(n) {
			l = append(l, number(r, 24))
		}
		return l
	}
	through := func() []api.Step {
		var l []api.Step
		for range r.Intn(20) {
			l = append(l, api.Step{Section: number(r, 24), From: number(r, 3), To: number(r, 3)})
		}
		return l
	}
	for range 3000 {
		x := api.Table{Names: names(r.Intn(27)), Points: make([]bool, r.Intn(27)), Signals: names(r.Intn(15)), Settle: number(r, 1000)}
		for range r.Intn(34) {
			y := api.Route{Entry: number(r, 12), Exit: number(r, 12), Steps: through(), Lap: through(), Flanks: numbers(4), Near: numbers(4), Distance: number(r, 9), Timer: number(r, 9)}
			for range r.Intn(4) {
				y.Points = append(y.Points, api.Demand{Point: number(r, 24), Position: number(r, 2)})
			}
			x.Routes = append(x.Routes, y)
		}
		right(t, sealed(x), told(sealed(x)))
		right(t, x, told(x))
	}
}

// What is handed in isn't changed, answers are new, nothing is kept, and many may call at once.

// room gives a list with room behind it, that is filled.
func room[T any](l []T, x T) []T { return append(slices.Clone(l), x, x, x)[:len(l)] }

// roomy gives a table with room behind each of its lists.
func roomy(x api.Table) api.Table {
	step := api.Step{Section: 7, From: 7, To: 7}
	x.Names, x.Points, x.Signals = room(x.Names, "?"), room(x.Points, true), room(x.Signals, "?")
	x.Routes, x.Bars = room(x.Routes, api.Route{Entry: -7}), room(x.Bars, []uint32{7})
	for i := range x.Routes {
		r := &x.Routes[i]
		r.Steps, r.Lap, r.Points = room(r.Steps, step), room(r.Lap, step), room(r.Points, api.Demand{Point: 7, Position: 7})
		r.Flanks, r.Near = room(r.Flanks, 77), room(r.Near, 77)
		x.Bars[i] = room(x.Bars[i], 7)
	}
	return x
}

// whole gives a table with all that lies in the room behind its lists.
func whole(x api.Table) api.Table {
	x.Names, x.Points, x.Signals = slices.Clone(x.Names[:cap(x.Names)]), slices.Clone(x.Points[:cap(x.Points)]), slices.Clone(x.Signals[:cap(x.Signals)])
	x.Routes, x.Bars = slices.Clone(x.Routes[:cap(x.Routes)]), slices.Clone(x.Bars[:cap(x.Bars)])
	for i := range x.Routes {
		r := &x.Routes[i]
		r.Steps, r.Lap, r.Points = slices.Clone(r.Steps[:cap(r.Steps)]), slices.Clone(r.Lap[:cap(r.Lap)]), slices.Clone(r.Points[:cap(r.Points)])
		r.Flanks, r.Near = slices.Clone(r.Flanks[:cap(r.Flanks)]), slices.Clone(r.Near[:cap(r.Near)])
	}
	for i, set := range x.Bars {
		x.Bars[i] = slices.Clone(set[:cap(set)])
	}
	return x
}

func TestTableHandedInStaysAsItWas(t *testing.T) {
	x := roomy(byHand())
	before := whole(x)
	right(t, x, true)
	if !same(whole(x), before) || !same(x, byHand()) {
		t.Error("the table, or its spare room, was changed")
	}
	x.Bars[9][0] = 0
	before = whole(x)
	right(t, x, false)
	if !same(whole(x), before) {
		t.Error("the table, or its spare room, was changed")
	}
}

func TestPlanHandedInStaysAsItWas(t *testing.T) {
	p := build(t, station)
	p.Sections, p.Signals = room(p.Sections, api.Section{Name: "?"}), room(p.Signals, api.Signal{Name: "?"})
	sections, signals := slices.Clone(p.Sections[:cap(p.Sections)]), slices.Clone(p.Signals[:cap(p.Signals)])
	x := made(t, p)
	ruin(x)
	if !slices.Equal(p.Sections[:cap(p.Sections)], sections) || !slices.Equal(p.Signals[:cap(p.Signals)], signals) {
		t.Error("the plan, or its spare room, was changed")
	}
	answers(t, p, byHand())
}

// ruin overwrites all that a table holds, and the room behind its lists.
func ruin(x api.Table) {
	for _, r := range x.Routes[:cap(x.Routes)] {
		clear(r.Steps[:cap(r.Steps)])
		clear(r.Lap[:cap(r.Lap)])
		clear(r.Points[:cap(r.Points)])
		clear(r.Flanks[:cap(r.Flanks)])
		clear(r.Near[:cap(r.Near)])
	}
	for _, set := range x.Bars[:cap(x.Bars)] {
		clear(set[:cap(set)])
	}
	clear(x.Names[:cap(x.Names)])
	clear(x.Points[:cap(x.Points)])
	clear(x.Signals[:cap(x.Signals)])
	clear(x.Routes[:cap(x.Routes)])
	clear(x.Bars[:cap(x.Bars)])
}

func TestAnswersStandAlone(t *testing.T) {
	p := build(t, station)
	a, b := made(t, p), made(t, p)
	ruin(a)
	if !same(b, byHand()) {
		t.Errorf("two answers share what they hold: %+v", b)
	}
}

// No two lists of one answer share any.
func TestListsOfOneAnswerStandAlone(t *testing.T) {
	x := made(t, build(t, station))
	want := byHand()
	for i := range x.Routes {
		r, s := &x.Routes[i], &want.Routes[i]
		for _, l := range []*[]int{&r.Flanks, &r.Near} {
			clear((*l)[:cap(*l)])
		}
		for _, l := range []*[]api.Step{&r.Steps, &r.Lap} {
			clear((*l)[:cap(*l)])
		}
		clear(r.Points[:cap(r.Points)])
		s.Steps, s.Lap, s.Points = make([]api.Step, len(s.Steps)), make([]api.Step, len(s.Lap)), make([]api.Demand, len(s.Points))
		s.Flanks, s.Near = make([]int, len(s.Flanks)), make([]int, len(s.Near))
		clear(x.Bars[i][:cap(x.Bars[i])])
		want.Bars[i][0] = 0
		if !same(x, want) {
			t.Fatalf("route %d shares what another one holds: %+v, want %+v", i, x, want)
		}
	}
	clear(x.Names[:cap(x.Names)])
	if !slices.Equal(x.Signals, want.Signals) {
		t.Error("names and signals share their room")
	}
}

func TestCallsHangOnTheirArgumentsAlone(t *testing.T) {
	p, none := build(t, station), leads(t, 5)
	x, y := byHand(), hand()
	y.Bars = nil
	var all sync.WaitGroup
	for range 8 {
		all.Go(func() {
			for range 40 {
				answers(t, p, x)
				right(t, x, true)
				right(t, y, false)
				fails(t, none, api.ErrLarge)
			}
		})
	}
	all.Wait()
}
