package clash_test

import (
	"math"
	"math/rand"
	"slices"
	"strconv"
	"strings"
	"sync"
	"testing"

	"leverman/api"
	"leverman/bitset"
	"leverman/clash"
	"leverman/example"
	"leverman/plan"
	"leverman/route"
	"leverman/sheet"
)

// strange are numbers that a raw route may hold: some are a small one in fewer bits.
var strange = []int{math.MinInt, math.MinInt + 1, -1 << 32, -1<<32 + 1, -256, -33, -2, -1, 24, 32, 33, 255, 256, 257, 1 << 31, 1<<32 - 1, 1 << 32, 1<<32 + 1, math.MaxInt - 1, math.MaxInt}

func build(t *testing.T, text string) api.Plan {
	t.Helper()
	l, f := sheet.Parse(text)
	p, g := plan.Build(l)
	if f != (api.Fault{}) || g != (api.Fault{}) {
		t.Fatalf("%q is no station: %+v, %+v", text, f, g)
	}
	return p
}

// station gives the routes of the document's station.
func station(t *testing.T) []api.Route {
	t.Helper()
	l, err := route.All(build(t, example.Station))
	if err != api.OK || len(l) != 10 {
		t.Fatalf("the station has %d routes, error %d", len(l), err)
	}
	return l
}

// bars holds what is told of two routes, whichever is first.
func bars(t *testing.T, r, s api.Route, want bool) {
	t.Helper()
	if got := clash.Bars(r, s); got != want {
		t.Errorf("Bars(%+v, %+v) = %t, want %t", r, s, got, want)
	}
	if got := clash.Bars(s, r); got != want {
		t.Errorf("Bars(%+v, %+v) = %t, want %t", s, r, got, want)
	}
}

// through gives steps through sections, of which each is gone through from its end 0 to its end 1.
func through(sections ...int) []api.Step {
	var l []api.Step
	for _, s := range sections {
		l = append(l, api.Step{Section: s, From: 0, To: 1})
	}
	return l
}

// points gives demands that are told as point, position; point, position; and so on.
func points(numbers ...int) []api.Demand {
	var l []api.Demand
	for x := range slices.Chunk(numbers, 2) {
		l = append(l, api.Demand{Point: x[0], Position: x[1]})
	}
	return l
}

// by gives a route by what may bar another one.
func by(entry, exit int, steps, lap []int, asked ...int) api.Route {
	return api.Route{Entry: entry, Exit: exit, Steps: through(steps...), Lap: through(lap...), Points: points(asked...)}
}

// on gives sections, so that routes are short to tell.
func on(sections ...int) []int { return sections }

// told is a finder of another make: it asks of each section in which of the four lists it is.
func told(r, s api.Route) bool {
	const rSteps, rLap, sSteps, sLap = 1, 2, 4, 8
	where := map[int]int{}
	for list, l := range map[int][]api.Step{rSteps: r.Steps, rLap: r.Lap, sSteps: s.Steps, sLap: s.Lap} {
		for _, x := range l {
			where[x.Section] |= list
		}
	}
	there, back := r.Exit >= 0 && r.Exit == s.Entry, s.Exit >= 0 && s.Exit == r.Entry
	for _, w := range where {
		both := w&rSteps != 0 && w&sSteps != 0
		first := w&rLap != 0 && w > 3 && !there
		second := w&sLap != 0 && w%4 != 0 && !back
		if both || first || second {
			return true
		}
	}
	return r.Entry == s.Entry || otherwise(r.Points, s.Points) || otherwise(s.Points, r.Points)
}

// otherwise tells whether a point that b asks for is asked for in another position by a.
func otherwise(a, b []api.Demand) bool {
	first := map[int]int{}
	for _, y := range slices.Backward(b) {
		first[y.Point] = y.Position
	}
	n := 0
	for _, x := range a {
		if y := first[x.Point]; y != 0 && y != x.Position {
			n++
		}
	}
	return n > 0
}

// rows gives a matrix as texts: X for a route that is barred, a dot for one that isn't.
func rows(t *testing.T, m [][]uint32) []string {
	t.Helper()
	var l []string
	for i, set := range m {
		if len(set) != (len(m)+31)/32 {
			t.Errorf("the set of route %d of %d has %d words", i, len(m), len(set))
		}
		row := []byte(strings.Repeat(".", len(m)))
		for _, n := range bitset.List(set) {
			if n >= len(m) {
				t.Errorf("%d is in the set of route %d of %d", n, i, len(m))
				continue
			}
			row[n] = 'X'
		}
		l = append(l, string(row))
	}
	return l
}

func matrix(t *testing.T, l []api.Route, want []string) {
	t.Helper()
	if got := rows(t, clash.Matrix(l)); !slices.Equal(got, want) {
		t.Errorf("Matrix = %q, want %q, of %+v", got, want, l)
	}
}

// rests gives the rows that the other finder tells.
func rests(l []api.Route) []string {
	var all []string
	for i, r := range l {
		row := ""
		for j, s := range l {
			if i != j && told(r, s) {
				row += "X"
			} else {
				row += "."
			}
		}
		all = append(all, row)
	}
	return all
}

// P14.1: the document's station.

// Its routes are A to B, A to C, B on, C on, D to G, D to H, G on, H on, I to A, J to D.
func barring() []string {
	return []string{
		".X.XXXXX.X",
		"X.X.XXXXXX",
		".X.XXX...X",
		"X.X.XX...X",
		"XXXX.X.XX.",
		"XXXXX.X.XX",
		"XX...X.XX.",
		"XX..X.X.X.",
		".X..XXXX..",
		"XXXX.X....",
	}
}

func TestBarsInTheStation(t *testing.T) {
	l := station(t)
	for i, r := range l {
		for j, s := range l {
			// a route has its own Entry
			bars(t, r, s, i == j || barring()[i][j] == 'X')
		}
	}
	matrix(t, l, barring())
}

// The document's own examples of it: A to B, and B on; A to C; the one from G.
func TestExamples(t *testing.T) {
	l := station(t)
	bars(t, l[0], l[2], false)
	bars(t, l[0], l[1], true)
	bars(t, l[0], l[6], true)
}

// Without overlaps, and what these ask for, fewer routes bar one another: A to B and D to H go through no section that both have, and ask for no point that both have.
func TestBarsWithoutOverlaps(t *testing.T) {
	p := build(t, example.Station)
	p.Overlap = 0
	l, _ := route.All(p)
	matrix(t, l, []string{
		".X..X.XX..",
		"X....XXX..",
		"...XXX...X",
		"..X.XX...X",
		"X.XX.X....",
		".XXXX.....",
		"XX.....XX.",
		"XX....X.X.",
		"......XX..",
		"..XX......",
	})
}

// P14.1: nothing that bars.

// Routes through sections of their own, with points in no other positions, don't bar one another.
func TestApart(t *testing.T) {
	bars(t, api.Route{Entry: 0}, api.Route{Entry: 1}, false)
	bars(t, by(0, 1, on(1, 2), on(3), 1, 1, 3, 2), by(2, 3, on(4, 5), on(6), 4, 1, 6, 2), false)
	// though they end at one signal, or where no signal is
	bars(t, by(0, 1, on(1, 2), on(3)), by(2, 1, on(4, 5), on(6)), false)
	bars(t, by(0, -1, on(1, 2), nil), by(2, -1, on(4, 5), nil), false)
	// each from where the other one ends
	bars(t, by(0, 1, on(1, 2), on(3)), by(1, 0, on(4, 5), on(6)), false)
	// each from where it ends itself
	bars(t, by(0, 0, on(1, 2), on(3)), by(1, 1, on(4, 5), on(6)), false)
}

// Sections in one route's own steps and overlap, or twice there, are its own.
func TestOnesOwnSections(t *testing.T) {
	bars(t, by(0, 1, on(1, 2, 1), on(2, 3, 3)), by(2, 3, on(4, 5, 4), on(5, 6, 6)), false)
}

// What else a route has bars nothing: what protects it, where trains come from, how far that is, its timer.
func TestWhatBarsNothing(t *testing.T) {
	r, s := by(0, 1, on(1, 2), on(3), 1, 1), by(2, 3, on(4, 5), on(6), 4, 2)
	r.Flanks, s.Flanks = []int{0, 2, 7}, []int{0, 2, 7}
	r.Near, s.Near = []int{1, 4, 6, 8}, []int{1, 3, 4, 8}
	r.Distance, s.Distance, r.Timer, s.Timer = 5, 5, 3, 3
	bars(t, r, s, false)
	// nor a point that is asked for in a position where no other one asks for it, though it's gone through
	bars(t, by(0, 1, on(1), nil, 4, 1, 5, 2), by(2, 3, on(4, 5), nil), false)
	bars(t, by(0, 1, on(1), nil), by(2, 3, nil, on(4, 5), 1, 1), false)
}

// P14.1: the same Entry.

func TestSameEntry(t *testing.T) {
	for _, n := range append([]int{0, 1, 2, 11}, strange...) {
		bars(t, api.Route{Entry: n}, api.Route{Entry: n}, true)
		bars(t, by(n, 1, on(1, 2), on(3)), by(n, 3, on(4, 5), on(6)), true)
		// also where one goes on from where the other one ends
		bars(t, by(n, n, on(1, 2), on(3)), by(n, n, on(4, 5), on(6)), true)
	}
}

func TestOtherEntries(t *testing.T) {
	all := append([]int{0, 1, 2, 11}, strange...)
	for i, n := range all {
		for j, m := range all {
			bars(t, by(n, 50, on(1, 2), on(3)), by(m, 51, on(4, 5), on(6)), i == j)
		}
	}
}

// P14.1: a section in the steps of both.

func TestSectionInBoth(t *testing.T) {
	for i := range 3 {
		for j := range 3 {
			r, s := by(0, 1, on(1, 2, 3), nil), by(2, 3, on(4, 5, 6), nil)
			bars(t, r, s, false)
			r.Steps[i].Section = s.Steps[j].Section
			bars(t, r, s, true)
			// also where one goes on from where the other one ends
			s.Entry = r.Exit
			bars(t, r, s, true)
			s.Exit = r.Entry
			bars(t, r, s, true)
			// and where neither ends at a signal
			r.Exit, s.Exit = -1, -1
			bars(t, r, s, true)
		}
	}
}

// Whichever ends a section is gone through by.
func TestSectionByAnyEnds(t *testing.T) {
	for _, from := range []int{0, 1, 2, -1, 99} {
		for _, to := range []int{0, 1, 2, -1, 99} {
			r, s := by(0, 1, on(7), nil), by(2, 3, nil, nil)
			s.Steps = []api.Step{{Section: 7, From: from, To: to}}
			bars(t, r, s, true)
			s.Steps[0].Section = 8
			bars(t, r, s, false)
			s.Steps[0] = api.Step{Section: from, From: 7, To: to}
			bars(t, r, s, false)
		}
	}
}

// Sections are told by their whole numbers, which may be any.
func TestAnySections(t *testing.T) {
	all := append([]int{0, 1, 2, 23}, strange...)
	for i, n := range all {
		for j, m := range all {
			bars(t, by(0, 1, on(50, n), nil), by(2, 3, on(m, 51), nil), i == j)
			bars(t, by(0, 1, on(50), on(n)), by(2, 3, on(m, 51), nil), i == j)
			bars(t, by(0, 1, on(50), on(n)), by(2, 3, on(51), on(m)), i == j)
		}
	}
}

// P14.1: points in opposed positions.

func TestOpposedPoints(t *testing.T) {
	for _, x := range []struct {
		a, b []int
		want bool
	}{
		{on(4, 1), on(4, 2), true},
		{on(4, 1), on(4, 1), false},
		{on(4, 2), on(4, 2), false},
		{on(4, 1), on(5, 2), false},
		{on(4, 1), nil, false},
		{on(3, 1, 4, 1, 5, 2), on(3, 1, 4, 1, 5, 2), false},
		{on(3, 1, 4, 1, 5, 2), on(3, 1, 4, 1, 5, 1), true},
		{on(3, 1, 4, 1, 5, 2), on(3, 2, 4, 1, 5, 2), true},
		{on(3, 1, 4, 1, 5, 2), on(2, 1, 4, 2, 6, 2), true},
		{on(3, 1, 5, 2), on(2, 2, 4, 1, 6, 1), false},
	} {
		r, s := by(0, 1, on(1), on(2), x.a...), by(2, 3, on(11), on(12), x.b...)
		bars(t, r, s, x.want)
		// also where one goes on from where the other one ends
		r.Exit, s.Exit = 2, 0
		bars(t, r, s, x.want)
		r.Exit, s.Exit = -1, -1
		bars(t, r, s, x.want)
	}
}

// Raw demands may be opposed one way alone, and bar either way.
func TestPointsOpposedOneWay(t *testing.T) {
	for _, x := range []struct {
		a, b []int
		want bool
	}{
		{on(4, 0), on(4, 2), true},
		{on(4, 0), on(4, 0), false},
		{on(4, 0), on(5, 2), false},
		{on(4, -1), on(4, 1), true},
		{on(4, -1), on(4, -1), false},
		{on(4, 3), on(4, 3), false},
		{on(4, 1<<32+1), on(4, 1), true},
		{on(4, 1), on(1<<32+4, 2), false},
		{on(-4, 1), on(-4, 2), true},
		{on(4, 1, 4, 2), on(4, 1), true},
		{on(4, 2, 4, 1), on(4, 1), true},
		{on(4, 0, 4, 1), on(4, 0), false},
		{on(4, 0, 4, 1), on(4, 1), true},
		{on(4, 1, 4, 2), on(4, 0), true},
		{on(4, 0, 4, 2), on(4, 0, 4, 2), false},
		{on(5, 1, 4, 1, 3, 1), on(3, 2, 5, 1), true},
	} {
		bars(t, by(0, 1, nil, nil, x.a...), by(2, 3, nil, nil, x.b...), x.want)
	}
}

// P14.1: overlaps.

func TestOverlapInSteps(t *testing.T) {
	for i := range 3 {
		for j := range 3 {
			r, s := by(0, 1, on(1), on(7, 8, 9)), by(2, 3, on(4, 5, 6), nil)
			bars(t, r, s, false)
			r.Lap[i].Section = s.Steps[j].Section
			bars(t, r, s, true)
			s.Entry = 1
			bars(t, r, s, false)
		}
	}
}

func TestOverlapInOverlap(t *testing.T) {
	for i := range 3 {
		for j := range 3 {
			r, s := by(0, 1, on(1), on(7, 8, 9)), by(2, 3, on(2), on(4, 5, 6))
			bars(t, r, s, false)
			r.Lap[i].Section = s.Lap[j].Section
			bars(t, r, s, true)
			// each one's overlap meets the other one: both must go on from the other one
			s.Entry = 1
			bars(t, r, s, true)
			s.Exit = 0
			bars(t, r, s, false)
			s.Entry = 2
			bars(t, r, s, true)
		}
	}
}

// Whichever ends a section of the overlap is gone through by.
func TestOverlapByAnyEnds(t *testing.T) {
	r, s := by(0, 1, on(1), on(7)), by(2, 3, on(8), on(9))
	s.Steps[0] = api.Step{Section: 7, From: 1, To: 0}
	bars(t, r, s, true)
	s.Steps[0], s.Lap[0] = api.Step{Section: 8}, api.Step{Section: 7, From: 2, To: 0}
	bars(t, r, s, true)
	s.Lap[0] = api.Step{Section: 9, From: 7, To: 7}
	bars(t, r, s, false)
}

// A route from the signal at which another one ends isn't barred by that one's overlap, but by all else it is.
func TestOnFromTheExit(t *testing.T) {
	bars(t, by(0, 1, on(1), on(2)), by(1, 3, on(2, 3), on(4)), false)
	bars(t, by(0, 1, on(1), on(2, 3)), by(1, 3, on(2), on(4)), false)
	// by its own overlap
	bars(t, by(0, 1, on(1), on(2)), by(1, 3, on(2, 3), on(1)), true)
	bars(t, by(0, 1, on(1), on(2)), by(1, 3, on(2, 3), on(2)), true)
	// by a section, a point, its Entry
	bars(t, by(0, 1, on(1, 3), on(2)), by(1, 3, on(2, 3), on(4)), true)
	bars(t, by(0, 1, on(1), on(2), 2, 1), by(1, 3, on(2, 3), on(4), 2, 2), true)
	bars(t, by(1, 1, on(1), on(2)), by(1, 3, on(2, 3), on(4)), true)
	// in a ring each goes on from the other one, so neither overlap bars
	bars(t, by(0, 1, on(1), on(2)), by(1, 0, on(2), on(1)), false)
	bars(t, by(0, 1, on(1), on(2, 1)), by(1, 0, on(2), on(1, 2)), false)
	// where it ends itself doesn't matter
	bars(t, by(0, 0, on(1), on(2)), by(1, 1, on(2), nil), true)
	bars(t, by(0, 2, on(1), on(2)), by(1, 2, on(2), nil), true)
	// nor whom the other one goes on from
	bars(t, by(0, 2, on(1), on(2)), by(1, 0, on(2), nil), true)
}

// 0 is a signal, and so is any number from there on; none below is, whatever an Entry is.
func TestExitsThatAreNoSignals(t *testing.T) {
	for _, n := range []int{0, 1, 11, 12, 255, 256, 1 << 31, 1 << 32, math.MaxInt} {
		bars(t, by(50, n, on(1), on(2)), by(n, 51, on(2), nil), false)
		bars(t, by(50, n, on(1), on(2)), by(n, 50, on(3), on(2)), false)
	}
	for _, n := range []int{-1, -2, -3, -11, -256, -1 << 31, -1 << 32, math.MinInt + 1, math.MinInt} {
		bars(t, by(50, n, on(1), on(2)), by(n, 51, on(2), nil), true)
		bars(t, by(50, n, on(1), on(2)), by(n, 50, on(3), on(2)), true)
		bars(t, by(50, n, on(1), on(2)), by(n, 51, on(3), on(4)), false)
	}
}

// Signals are told by their whole numbers.
func TestExitsThatAreOtherSignals(t *testing.T) {
	all := append([]int{0, 1, 2, 11}, strange...)
	for i, n := range all {
		for j, m := range all {
			bars(t, by(50, n, on(1), on(2)), by(m, 51, on(2), nil), i != j || n < 0)
		}
	}
}

// P14.1, P14.2: all small routes.

// lists gives all lists of sections of two, up to two long.
func lists() [][]int { return [][]int{nil, {0}, {1}, {0, 1}} }

func TestAllSmallRoutes(t *testing.T) {
	var all []api.Route
	for _, entry := range []int{-1, 0, 1} {
		for _, exit := range []int{-1, 0, 1} {
			for _, steps := range lists() {
				for _, lap := range lists() {
					for _, asked := range [][]int{nil, {0, 1}, {0, 2}, {1, 1}, {0, 0}} {
						all = append(all, by(entry, exit, steps, lap, asked...))
					}
				}
			}
		}
	}
	yes := 0
	for _, r := range all {
		for _, s := range all {
			got, back, want := clash.Bars(r, s), clash.Bars(s, r), told(r, s)
			if got != want || back != want {
				t.Fatalf("Bars(%+v, %+v) = %t, the other way %t, want %t", r, s, got, back, want)
			}
			if want {
				yes++
			}
		}
	}
	if yes < 10000 || len(all)*len(all)-yes < 10000 {
		t.Errorf("%d of %d bar", yes, len(all)*len(all))
	}
}

// P14.1: the matrix.

func TestMatrixOfNone(t *testing.T) {
	matrix(t, nil, nil)
	matrix(t, []api.Route{}, nil)
}

// A route isn't in its own set, but one that is alike, at another place, is.
func TestMatrixByHand(t *testing.T) {
	r, s := by(0, 1, on(1), nil), by(2, 3, on(4), nil)
	matrix(t, []api.Route{r}, []string{"."})
	matrix(t, []api.Route{{}}, []string{"."})
	matrix(t, []api.Route{r, s}, []string{"..", ".."})
	matrix(t, []api.Route{r, r}, []string{".X", "X."})
	matrix(t, []api.Route{r, s, r}, []string{"..X", "...", "X.."})
	matrix(t, []api.Route{s, r, r, s, s}, []string{"...XX", "..X..", ".X...", "X...X", "X..X."})
}

// Of as many routes as have words' edges between them.
func TestMatrixSizes(t *testing.T) {
	for _, n := range []int{1, 2, 29, 30, 31, 32, 33, 34, 63, 64, 65, 95, 96, 97, 130} {
		var alike, apart, both []api.Route
		for i := range n {
			alike = append(alike, by(7, -1, on(1), nil))
			apart = append(apart, by(i, -1, on(i), nil))
			both = append(both, by(i, -1, on(i%32), nil))
		}
		matrix(t, alike, rests(alike))
		matrix(t, apart, rests(apart))
		matrix(t, both, rests(both))
		for i, set := range clash.Matrix(alike) {
			if l := bitset.List(set); len(l) != n-1 || slices.Contains(l, i) {
				t.Errorf("route %d of %d alike bars %d", i, n, l)
			}
		}
	}
}

// Each of 70 routes bars just one, and is barred by it.
func TestMatrixOfPairs(t *testing.T) {
	l := make([]api.Route, 70)
	for i := range 35 {
		l[i] = by(i, -1, on(i), nil)
		l[69-i] = by(100+i, -1, on(i), nil)
	}
	for i, set := range clash.Matrix(l) {
		if got := bitset.List(set); !slices.Equal(got, []int{69 - i}) {
			t.Errorf("route %d bars %d", i, got)
		}
	}
}

// Behind the list's end lies what isn't in it.
func TestRoutesInSpareRoom(t *testing.T) {
	l := station(t)
	matrix(t, l[:3], []string{".X.", "X.X", ".X."})
	matrix(t, l[2:4], []string{".X", "X."})
	matrix(t, l[:0], nil)
}

// P14.1, P14.2: routes that are drawn.

// number draws a number from 0 on, below n, or now and then a strange one.
func number(r *rand.Rand, n int) int {
	if r.Intn(20) == 0 {
		return strange[r.Intn(len(strange))]
	}
	return r.Intn(n)
}

func drawnSteps(r *rand.Rand, most int) []api.Step {
	var l []api.Step
	for range r.Intn(most + 1) {
		l = append(l, api.Step{Section: number(r, 24), From: r.Intn(3), To: r.Intn(3)})
	}
	return l
}

func drawn(r *rand.Rand) api.Route {
	x := api.Route{Entry: number(r, 4), Exit: number(r, 5) - 1, Steps: drawnSteps(r, 4), Lap: drawnSteps(r, 3)}
	for range r.Intn(4) {
		x.Points = append(x.Points, api.Demand{Point: number(r, 12), Position: number(r, 3)})
	}
	x.Flanks, x.Near = r.Perm(8)[:r.Intn(4)], r.Perm(24)[:r.Intn(4)]
	x.Distance, x.Timer = r.Intn(9), r.Intn(9)
	return x
}

// either holds that one route is in the set of another one just if that one is in its own.
func either(t *testing.T, m [][]uint32) {
	t.Helper()
	for i := range m {
		for j := range m {
			if bitset.Has(m[i], j) != bitset.Has(m[j], i) {
				t.Errorf("%d bars %d: %t, but not so the other way round", i, j, bitset.Has(m[i], j))
			}
		}
	}
}

func TestDrawnRoutes(t *testing.T) {
	r := rand.New(rand.NewSource(1))
	yes, no := 0, 0
	for range 1500 {
		l := make([]api.Route, r.Intn(36))
		for i := range l {
			l[i] = drawn(r)
		}
		want := rests(l)
		matrix(t, l, want)
		either(t, clash.Matrix(l))
		for i := range l {
			j := r.Intn(len(l))
			bars(t, l[i], l[j], i == j || want[i][j] == 'X')
		}
		all := strings.Join(want, "")
		yes, no = yes+strings.Count(all, "X"), no+strings.Count(all, ".")
		if t.Failed() {
			return
		}
	}
	if yes < 100000 || no < 100000 {
		t.Errorf("%d bar, %d don't", yes, no)
	}
}

// tally counts pairs of routes by why they bar one another, or don't, so that a test isn't held by a few kinds alone.
type tally struct{ entry, steps, points, lap, on, apart int }

// count counts two routes by the first reason that holds.
func (c *tally) count(r, s api.Route) {
	bare, open := r, s
	bare.Lap, open.Lap = nil, nil
	free, away := r, s
	free.Exit, away.Exit = -1, -1
	pointless := bare
	pointless.Points = nil
	switch {
	case r.Entry == s.Entry:
		c.entry++
	case told(pointless, open):
		c.steps++
	case told(bare, open):
		c.points++
	case told(r, s):
		c.lap++
	case told(free, away):
		c.on++
	default:
		c.apart++
	}
}

// The routes of stations that are drawn.
func TestDrawnStations(t *testing.T) {
	r := rand.New(rand.NewSource(2))
	var c tally
	for range 3000 {
		points, plains := r.Intn(7), 1+r.Intn(7)
		ends := 3*points + 2*plains
		p := build(t, example.Drawn(r.Intn, points, plains, ends/2-r.Intn(3), 1+r.Intn(9)))
		p.Overlap, p.Approach = r.Intn(16), r.Intn(16)
		l, err := route.All(p)
		if err != api.OK {
			continue
		}
		matrix(t, l, rests(l))
		either(t, clash.Matrix(l))
		for i, x := range l {
			for _, y := range l[:i] {
				bars(t, x, y, told(x, y))
				c.count(x, y)
			}
		}
		if t.Failed() {
			return
		}
	}
	if c.entry < 1000 || c.steps < 1000 || c.points < 1000 || c.lap < 1000 || c.on < 1000 || c.apart < 1000 {
		t.Errorf("too few of a kind: %+v", c)
	}
}

// Far more routes than a station may have, with lists far longer.
func TestManyRoutes(t *testing.T) {
	r := rand.New(rand.NewSource(3))
	l := make([]api.Route, 300)
	for i := range l {
		l[i] = drawn(r)
		l[i].Entry = i
	}
	matrix(t, l, rests(l))
	long, far := by(0, 1, nil, nil), by(2, 3, nil, nil)
	for i := range 2000 {
		long.Steps = append(long.Steps, api.Step{Section: i})
		far.Steps = append(far.Steps, api.Step{Section: 2000 + i})
	}
	bars(t, long, far, false)
	far.Lap = through(1999)
	bars(t, long, far, true)
}

// What is handed in isn't changed, answers are new, nothing is kept, and many may call at once.

// text tells all that lists of routes hold, their spare room, too.
func text(l []api.Route) string {
	var b strings.Builder
	put := func(numbers ...int) {
		for _, n := range numbers {
			b.WriteString(strconv.Itoa(n) + " ")
		}
		b.WriteString("\n")
	}
	for _, r := range l[:cap(l)] {
		put(r.Entry, r.Exit, r.Distance, r.Timer, len(r.Steps), len(r.Lap), len(r.Points))
		for _, x := range slices.Concat(r.Steps[:cap(r.Steps)], r.Lap[:cap(r.Lap)]) {
			put(x.Section, x.From, x.To)
		}
		for _, x := range r.Points[:cap(r.Points)] {
			put(x.Point, x.Position)
		}
		put(r.Flanks[:cap(r.Flanks)]...)
		put(r.Near[:cap(r.Near)]...)
	}
	return b.String()
}

// room gives a list with room behind it, that is filled.
func room[T any](l []T, x T) []T { return append(slices.Clone(l), x, x, x)[:len(l)] }

// roomy gives routes with room behind each of their lists, and behind themselves.
func roomy(l []api.Route) []api.Route {
	l = room(l, by(7, 7, on(7), on(7), 7, 7))
	step := api.Step{Section: 7, From: 7, To: 7}
	for i := range l {
		r := &l[i]
		r.Steps, r.Lap = room(r.Steps, step), room(r.Lap, step)
		r.Points = room(r.Points, api.Demand{Point: 7, Position: 7})
		r.Flanks, r.Near = room(r.Flanks, 7), room(r.Near, 7)
	}
	return l
}

func TestWhatIsHandedInStaysAsItWas(t *testing.T) {
	l := roomy(station(t))
	want := text(l)
	m := clash.Matrix(l)
	for i := range l {
		for j := range l {
			clash.Bars(l[i], l[j])
		}
	}
	for _, set := range m {
		clear(set[:cap(set)])
	}
	if text(l) != want {
		t.Error("routes, or their spare room, were changed")
	}
}

// What lies in lists' spare room isn't of the routes.
func TestSpareRoomSaysNothing(t *testing.T) {
	r, s := by(0, 1, on(1, 4), on(2, 4), 1, 1, 4, 1), by(2, 3, on(4, 1), on(5, 2), 4, 2, 1, 2)
	r.Steps, r.Lap, r.Points = r.Steps[:1], r.Lap[:1], r.Points[:1]
	s.Steps, s.Lap, s.Points = s.Steps[:1], s.Lap[:1], s.Points[:1]
	bars(t, r, s, false)
	matrix(t, []api.Route{r, s, r}[:2], []string{"..", ".."})
}

// alone holds that whoever changes one set of an answer changes no other one, nor another answer.
func alone(t *testing.T, l []api.Route, want []string) {
	t.Helper()
	a, b := clash.Matrix(l), clash.Matrix(l)
	for i, set := range a {
		set = set[:cap(set)]
		for k := range set {
			set[k] = math.MaxUint32
		}
		for j := i + 1; j < len(a); j++ {
			if !slices.Equal(a[j], b[j]) {
				t.Fatalf("the set of route %d shares that of route %d", i, j)
			}
		}
	}
	clear(a)
	if got := rows(t, b); !slices.Equal(got, want) {
		t.Errorf("two answers share their sets: %q, want %q", got, want)
	}
}

func TestAnswersStandAlone(t *testing.T) {
	alone(t, station(t), barring())
	// sets that are alike, too
	r, s := by(0, 1, on(1), nil), by(2, 3, on(4), nil)
	alone(t, []api.Route{r, s, by(4, 5, on(4, 1), nil)}, []string{"..X", "..X", "XX."})
	alone(t, []api.Route{r, s}, []string{"..", ".."})
}

func TestCallsHangOnTheirArgumentsAlone(t *testing.T) {
	l := station(t)
	other := []api.Route{by(0, 1, on(1), on(2)), by(1, 3, on(2, 3), on(4)), by(0, 3, nil, nil)}
	var all sync.WaitGroup
	for range 8 {
		all.Go(func() {
			for range 50 {
				matrix(t, l, barring())
				matrix(t, other, []string{"..X", "...", "X.."})
				bars(t, l[0], l[1], true)
				bars(t, l[0], l[2], false)
			}
		})
	}
	all.Wait()
}
