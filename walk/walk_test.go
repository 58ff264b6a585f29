package walk_test

import (
	"maps"
	"math"
	"slices"
	"strings"
	"sync"
	"testing"

	"leverman/api"
	"leverman/example"
	"leverman/plan"
	"leverman/sheet"
	"leverman/walk"
)

const station = example.Station

// strange are numbers that no section of a small station has, nor an end: some are one of them in fewer bits.
var strange = []int{math.MinInt, math.MinInt + 1, -1 << 32, -256, -3, -2, -1, 24, 25, 256, 257, 1 << 31, 1 << 32, 1<<32 + 1, 1<<32 + 2, math.MaxInt - 1, math.MaxInt}

func build(t *testing.T, text string) api.Plan {
	t.Helper()
	l, f := sheet.Parse(text)
	p, g := plan.Build(l)
	if f != (api.Fault{}) || g != (api.Fault{}) {
		t.Fatalf("%q is no station: %+v, %+v", text, f, g)
	}
	return p
}

func outs(t *testing.T, p api.Plan, s, from int, want ...api.Step) {
	t.Helper()
	if got := walk.Outs(p, s, from); !slices.Equal(got, want) {
		t.Errorf("Outs(%d, %d) = %+v, want %+v", s, from, got, want)
	}
}

func next(t *testing.T, p api.Plan, s, end, to, at int) {
	t.Helper()
	if a, b, ok := walk.Next(p, s, end); a != to || b != at || !ok {
		t.Errorf("Next(%d, %d) = %d, %d, %t, want %d, %d, true", s, end, a, b, ok, to, at)
	}
}

func stopped(t *testing.T, p api.Plan, s, end int) {
	t.Helper()
	if a, b, ok := walk.Next(p, s, end); a != 0 || b != 0 || ok {
		t.Errorf("Next(%d, %d) = %d, %d, %t, want 0, 0, false", s, end, a, b, ok)
	}
}

func signal(t *testing.T, p api.Plan, s, end, want int) {
	t.Helper()
	if got := walk.Signal(p, s, end); got != want {
		t.Errorf("Signal(%d, %d) = %d, want %d", s, end, got, want)
	}
}

func position(t *testing.T, p api.Plan, x api.Step, want int) {
	t.Helper()
	if got := walk.Position(p, x); got != want {
		t.Errorf("Position(%+v) = %d, want %d", x, got, want)
	}
}

func within(t *testing.T, l []api.Step, s int, want bool) {
	t.Helper()
	if got := walk.Within(l, s); got != want {
		t.Errorf("Within(%+v, %d) = %t, want %t", l, s, got, want)
	}
}

// none holds that there is no such end.
func none(t *testing.T, p api.Plan, s, end int) {
	t.Helper()
	outs(t, p, s, end)
	stopped(t, p, s, end)
	signal(t, p, s, end, -1)
}

// P6.1: Outs.

func TestOutsOfAPoint(t *testing.T) {
	p := build(t, station)
	outs(t, p, 2, 0, api.Step{Section: 2, From: 0, To: 1}, api.Step{Section: 2, From: 0, To: 2})
	outs(t, p, 2, 1, api.Step{Section: 2, From: 1, To: 0})
	outs(t, p, 2, 2, api.Step{Section: 2, From: 2, To: 0})
	outs(t, p, 3, 0, api.Step{Section: 3, From: 0, To: 1}, api.Step{Section: 3, From: 0, To: 2})
	outs(t, p, 3, 1, api.Step{Section: 3, From: 1, To: 0})
	outs(t, p, 3, 2, api.Step{Section: 3, From: 2, To: 0})
}

func TestOutsOfAPlainSection(t *testing.T) {
	p := build(t, station)
	for _, s := range []int{0, 1, 4, 5, 6, 7} {
		outs(t, p, s, 0, api.Step{Section: s, From: 0, To: 1})
		outs(t, p, s, 1, api.Step{Section: s, From: 1, To: 0})
		outs(t, p, s, 2)
	}
}

// A step is gone through whether what lies behind it is stopped, and whether a signal stands there.
func TestOutsOfStoppedEndsAndOfSignals(t *testing.T) {
	p := build(t, "section W 1\nbuffer W.a\nbuffer W.b\npoint P 1\nbuffer P.t\nbuffer P.n\nbuffer P.r\n")
	outs(t, p, 0, 0, api.Step{Section: 0, From: 0, To: 1}, api.Step{Section: 0, From: 0, To: 2})
	outs(t, p, 0, 1, api.Step{Section: 0, From: 1, To: 0})
	outs(t, p, 0, 2, api.Step{Section: 0, From: 2, To: 0})
	outs(t, p, 1, 0, api.Step{Section: 1, From: 0, To: 1})
	outs(t, p, 1, 1, api.Step{Section: 1, From: 1, To: 0})
	p = build(t, "point P 1\njoin P.n P.r\nbuffer P.t\nsignal A P.n\nsignal B P.r\n")
	outs(t, p, 0, 0, api.Step{Section: 0, From: 0, To: 1}, api.Step{Section: 0, From: 0, To: 2})
	outs(t, p, 0, 1, api.Step{Section: 0, From: 1, To: 0})
	outs(t, p, 0, 2, api.Step{Section: 0, From: 2, To: 0})
}

// P6.1: Next.

func TestNextInTheStation(t *testing.T) {
	p := build(t, station)
	next(t, p, 0, 0, 3, 0)
	next(t, p, 0, 1, 1, 0)
	next(t, p, 1, 0, 0, 1)
	next(t, p, 2, 0, 7, 1)
	next(t, p, 2, 1, 4, 0)
	next(t, p, 2, 2, 5, 0)
	next(t, p, 3, 0, 0, 0)
	next(t, p, 3, 1, 4, 1)
	next(t, p, 3, 2, 5, 1)
	next(t, p, 4, 0, 2, 1)
	next(t, p, 4, 1, 3, 1)
	next(t, p, 5, 0, 2, 2)
	next(t, p, 5, 1, 3, 2)
	next(t, p, 6, 1, 7, 0)
	next(t, p, 7, 0, 6, 1)
	next(t, p, 7, 1, 2, 0)
	stopped(t, p, 1, 1)
	stopped(t, p, 6, 0)
	for _, s := range []int{0, 1, 4, 5, 6, 7} {
		stopped(t, p, s, 2)
	}
}

func TestNextOfTheChaptersPoint(t *testing.T) {
	p := build(t, "point P 1\nsection T 2\nsection U 3\nsection W 4\njoin P.t W.b\njoin P.n T.a\njoin P.r U.a\nbuffer T.b\nbuffer U.b\nbuffer W.a\n")
	next(t, p, 0, 0, 3, 1)
	next(t, p, 0, 1, 1, 0)
	next(t, p, 0, 2, 2, 0)
}

func TestNextOfASectionJoinedToItself(t *testing.T) {
	p := build(t, "section W 1\njoin W.a W.b\npoint P 1\njoin P.n P.r\nbuffer P.t\n")
	stopped(t, p, 0, 0)
	next(t, p, 0, 1, 0, 2)
	next(t, p, 0, 2, 0, 1)
	next(t, p, 1, 0, 1, 1)
	next(t, p, 1, 1, 1, 0)
	stopped(t, p, 1, 2)
}

// P6.1: Signal.

func TestSignalInTheStation(t *testing.T) {
	p := build(t, station)
	stands := map[[2]int]int{{7, 1}: 0, {4, 1}: 1, {5, 1}: 2, {0, 0}: 3, {4, 0}: 4, {5, 0}: 5, {6, 1}: 6, {1, 0}: 7}
	for s := range p.Sections {
		for end := range 3 {
			want, ok := stands[[2]int{s, end}]
			if !ok {
				want = -1
			}
			signal(t, p, s, end, want)
		}
	}
}

// A signal that stands at an end is for who leaves by it, not for who comes from where it leads.
func TestSignalOfAPointsEnds(t *testing.T) {
	p := build(t, "point P 1\nsection T 2\nsection U 3\nsection W 4\njoin P.t W.b\njoin P.n T.a\njoin P.r U.a\nbuffer T.b\nbuffer U.b\nbuffer W.a\nsignal C P.t\nsignal B P.n\nsignal A P.r\n")
	signal(t, p, 0, 0, 2)
	signal(t, p, 0, 1, 1)
	signal(t, p, 0, 2, 0)
	for s := 1; s < 4; s++ {
		signal(t, p, s, 0, -1)
		signal(t, p, s, 1, -1)
	}
}

// P6.1: ends that there aren't.

func TestEndsThatASectionHasnt(t *testing.T) {
	p := build(t, station)
	for s := range p.Sections {
		for _, end := range append([]int{3, 4, 5, 8, 97}, strange...) {
			none(t, p, s, end)
		}
	}
}

func TestSectionsThatAStationHasnt(t *testing.T) {
	p := build(t, station)
	for _, s := range append([]int{8, 9, 12, 16}, strange...) {
		for _, end := range append([]int{0, 1, 2, 3}, strange...) {
			none(t, p, s, end)
		}
	}
}

func TestAStationOfNothing(t *testing.T) {
	for _, p := range []api.Plan{{}, {Sections: []api.Section{}}, build(t, "hold 1\n")} {
		for _, s := range append([]int{0, 1, 2}, strange...) {
			for _, end := range []int{-1, 0, 1, 2, 3} {
				none(t, p, s, end)
			}
			position(t, p, api.Step{Section: s, From: 1, To: 2}, 0)
		}
	}
}

// Sections behind the last one lie in spare room: they aren't the station's.
func TestSectionsInSpareRoom(t *testing.T) {
	p := build(t, station)
	more := append(slices.Clone(p.Sections), p.Sections[2], p.Sections[7])
	p.Sections = more[:8]
	for _, s := range []int{8, 9} {
		for end := range 3 {
			none(t, p, s, end)
		}
		position(t, p, api.Step{Section: s, From: 0, To: 2}, 0)
	}
}

// P6.1: Position.

func TestPositionOfAPoint(t *testing.T) {
	p := build(t, station)
	for _, s := range []int{2, 3} {
		position(t, p, api.Step{Section: s, From: 0, To: 1}, api.Normal)
		position(t, p, api.Step{Section: s, From: 1, To: 0}, api.Normal)
		position(t, p, api.Step{Section: s, From: 0, To: 2}, api.Reverse)
		position(t, p, api.Step{Section: s, From: 2, To: 0}, api.Reverse)
	}
}

func TestPositionOfAPlainSection(t *testing.T) {
	p := build(t, station)
	for _, s := range []int{0, 1, 4, 5, 6, 7} {
		for from := range 4 {
			for to := range 4 {
				position(t, p, api.Step{Section: s, From: from, To: to}, 0)
			}
		}
		position(t, p, api.Step{Section: s, From: math.MaxInt, To: math.MinInt}, 0)
	}
}

func TestPositionOfStepsThatThereArent(t *testing.T) {
	p := build(t, station)
	for _, s := range append([]int{8, 9}, strange...) {
		position(t, p, api.Step{Section: s, From: 0, To: 2}, 0)
		position(t, p, api.Step{Section: s, From: 1, To: 0}, 0)
	}
}

func TestPositionOfAnyNumbers(t *testing.T) {
	p := build(t, station)
	numbers := append([]int{0, 1, 2, 3, 5, 100}, strange...)
	for _, a := range numbers {
		for _, b := range numbers {
			want := 0
			for _, n := range []int{a, b} {
				if n > want {
					want = n
				}
			}
			position(t, p, api.Step{Section: 2, From: a, To: b}, want)
		}
	}
	position(t, p, api.Step{Section: 2, From: -5, To: -1}, 0)
	position(t, p, api.Step{Section: 3, From: math.MinInt, To: math.MinInt}, 0)
	position(t, p, api.Step{Section: 2, From: 1, To: 2}, 2)
	position(t, p, api.Step{Section: 2, From: 2, To: 1}, 2)
	position(t, p, api.Step{Section: 2, From: 1, To: 1}, 1)
	position(t, p, api.Step{Section: 2}, 0)
}

// P6.1: Within.

func TestWithin(t *testing.T) {
	l := []api.Step{{Section: 2, From: 0, To: 1}, {Section: 4, From: 0, To: 1}, {Section: 3, From: 1, To: 0}}
	for s := -2; s < 9; s++ {
		within(t, l, s, s == 2 || s == 3 || s == 4)
		within(t, l[:1], s, s == 2)
		within(t, l[1:], s, s == 3 || s == 4)
		within(t, nil, s, false)
		within(t, []api.Step{}, s, false)
		within(t, make([]api.Step, 0, 4), s, false)
	}
}

// Its ends are no sections.
func TestWithinLooksAtSectionsAlone(t *testing.T) {
	l := []api.Step{{Section: 7, From: 1, To: 0}, {Section: 7, From: 2, To: 5}}
	for _, s := range []int{0, 1, 2, 5} {
		within(t, l, s, false)
	}
	within(t, l, 7, true)
}

func TestWithinOfALongList(t *testing.T) {
	l := slices.Repeat([]api.Step{{Section: 2, From: 0, To: 1}}, 1<<16)
	within(t, l, 3, false)
	l = append(l, api.Step{Section: 3, From: 1, To: 0})
	within(t, l, 2, true)
	within(t, l, 3, true)
	within(t, l[:1<<16], 3, false)
}

func TestWithinOfAnyNumbers(t *testing.T) {
	var l []api.Step
	for _, s := range strange {
		within(t, l, s, false)
		l = append(l, api.Step{Section: s, From: -s, To: s})
		within(t, l, s, true)
		within(t, []api.Step{{Section: s}}, s, true)
	}
	within(t, l, 0, false)
	within(t, l, 1, false)
	within(t, l, 2, false)
}

// P6.2: there and back.

// yard is a station as the test tells it, by its ends' texts alone.
type yard struct {
	names []string          // of sections, in order
	tips  []string          // all ends: a section's name, a dot and the letter
	other map[string]string // by an end: the one that it meets, none if it is stopped
	posts map[string]string // by an end: the signal there
}

// letters tells a section's letters: those whose names begin with P are points.
func letters(name string) string {
	if name[0] == 'P' {
		return "tnr"
	}
	return "ab"
}

// bare is a station of sections of these names, rising, no end of which leads anywhere yet.
func bare(names ...string) yard {
	y := yard{names: names, other: map[string]string{}, posts: map[string]string{}}
	for _, name := range names {
		for _, c := range letters(name) {
			y.tips = append(y.tips, name+"."+string(c))
		}
	}
	return y
}

// text tells the station, its last sections first, to have its order differ from that of the plan.
func (y yard) text() string {
	var b strings.Builder
	for _, name := range slices.Backward(y.names) {
		word := map[string]string{"ab": "section ", "tnr": "point "}[letters(name)]
		b.WriteString(word + name + " 5\n")
	}
	for _, tip := range slices.Backward(y.tips) {
		switch other := y.other[tip]; {
		case other == "":
			b.WriteString("buffer " + tip + "\n")
		case tip < other:
			b.WriteString("join " + tip + " " + other + "\n")
		}
		if y.posts[tip] != "" {
			b.WriteString("signal " + y.posts[tip] + " " + tip + "\n")
		}
	}
	return b.String()
}

// post sets signals at the ends that lead somewhere, but at each third of them; the later ends' names come first.
func (y yard) post(left int) {
	clear(y.posts)
	for i, tip := range y.tips {
		if y.other[tip] != "" && i%3 != left && len(y.posts) < api.MaxSignals {
			y.posts[tip] = string(rune('Z' - len(y.posts)))
		}
	}
}

// each tells all ways to join the ends from the first one that is neither joined nor stopped, or to stop them.
func (y yard) each(first int, tell func()) {
	for first < len(y.tips) && y.other[y.tips[first]] != "" {
		first++
	}
	if first == len(y.tips) {
		tell()
		return
	}
	y.each(first+1, tell)
	a := y.tips[first]
	for _, b := range y.tips[first+1:] {
		if y.other[b] == "" && !y.passed(b, first) {
			y.other[a], y.other[b] = b, a
			y.each(first+1, tell)
			delete(y.other, a)
			delete(y.other, b)
		}
	}
}

// passed tells whether an end stands at that place, or ahead of it.
func (y yard) passed(tip string, at int) bool { return slices.Index(y.tips, tip) <= at }

// holds holds a plan against the station that it is of, and against itself.
func (y yard) holds(t *testing.T) {
	t.Helper()
	p := build(t, y.text())
	posts := slices.Sorted(maps.Values(y.posts))
	for s, name := range y.names {
		for end, c := range letters(name) {
			tip := name + "." + string(c)
			if to, at, ok := strings.Cut(y.other[tip], "."); ok {
				next(t, p, s, end, slices.Index(y.names, to), strings.Index(letters(to), at))
			} else {
				stopped(t, p, s, end)
			}
			signal(t, p, s, end, slices.Index(posts, y.posts[tip]))
		}
		for _, end := range []int{-1, len(letters(name)), 3} {
			none(t, p, s, end)
		}
	}
	for _, s := range []int{-1, len(y.names), len(y.names) + 1} {
		for end := range 3 {
			none(t, p, s, end)
		}
	}
	thereAndBack(t, p)
}

// thereAndBack holds P6.2 of each step, and of each end that leads somewhere.
func thereAndBack(t *testing.T, p api.Plan) {
	t.Helper()
	for s, x := range p.Sections {
		steps := 0
		for from := range 3 {
			for _, a := range walk.Outs(p, s, from) {
				steps++
				back := api.Step{Section: a.Section, From: a.To, To: a.From}
				if a.Section != s || a.From != from || a.To == from || !slices.Contains(walk.Outs(p, s, a.To), back) {
					t.Errorf("from %d, %d: %+v, not back", s, from, a)
				}
				want := 0
				if x.Point {
					want = a.From + a.To // one of them is the toe, 0
				}
				position(t, p, a, want)
				position(t, p, back, want)
			}
			if to, at, ok := walk.Next(p, s, from); ok {
				next(t, p, to, at, s, from)
			}
		}
		if want := map[bool]int{false: 2, true: 4}[x.Point]; steps != want {
			t.Errorf("%d steps through %d, want %d", steps, s, want)
		}
	}
}

func TestAllSmallStations(t *testing.T) {
	told := 0
	for _, names := range []string{"S", "P", "S T", "P S", "P PP", "S T U", "P S T", "P PP S", "P PP PQ"} {
		y := bare(strings.Fields(names)...)
		y.each(0, func() {
			if t.Failed() {
				return
			}
			told++
			y.post(told % 3)
			y.holds(t)
		})
	}
	// So many ways there are to pair off, or leave, 2, 3, 4, 5, 6, 6, 7, 8 and 9 ends.
	if want := 2 + 4 + 10 + 26 + 76 + 76 + 232 + 764 + 2620; told != want && !t.Failed() {
		t.Errorf("%d stations, want %d", told, want)
	}
}

// TestTheGreatestStation goes through as many points as there may be, each one's leg at the next one's toe, the last one's at the first one's.
func TestTheGreatestStation(t *testing.T) {
	var names []string
	for i := range api.MaxSections {
		names = append(names, "P"+string(rune('A'+i)))
	}
	for _, leg := range []string{".n", ".r"} {
		y := bare(names...)
		for i, name := range names {
			toe := names[(i+1)%len(names)] + ".t"
			y.other[name+leg], y.other[toe] = toe, name+leg
		}
		y.post(1)
		y.holds(t)
	}
}

func TestTheStationThereAndBack(t *testing.T) { thereAndBack(t, build(t, station)) }

// A plan's numbers say nothing of how one goes.
func TestNumbersSayNothing(t *testing.T) {
	p := build(t, station)
	p.Overlap, p.Approach, p.Settle, p.Hold = 1<<50, 1<<50, 1<<50, 1<<50
	outs(t, p, 2, 0, api.Step{Section: 2, From: 0, To: 1}, api.Step{Section: 2, From: 0, To: 2})
	next(t, p, 7, 1, 2, 0)
	signal(t, p, 7, 1, 0)
	position(t, p, api.Step{Section: 2, From: 2, To: 0}, 2)
	thereAndBack(t, p)
}

// What is handed in isn't changed, answers are new, nothing is kept, and many may call at once.

func TestWhatIsHandedInStaysAsItWas(t *testing.T) {
	p := build(t, station)
	p.Sections = slices.Grow(slices.Clone(p.Sections), 4)
	kept := slices.Clone(p.Sections[:cap(p.Sections)])
	l := []api.Step{{Section: 2, From: 0, To: 2}, {Section: 5, From: 0, To: 1}, {Section: 77}}
	steps := slices.Clone(l)
	for s := -1; s < 9; s++ {
		for end := -1; end < 4; end++ {
			walk.Outs(p, s, end)
			walk.Next(p, s, end)
			walk.Signal(p, s, end)
			walk.Position(p, api.Step{Section: s, From: end, To: 2})
			walk.Within(l[:2], s)
		}
	}
	if !slices.Equal(p.Sections[:cap(p.Sections)], kept) || !slices.Equal(l, steps) {
		t.Error("a plan, or steps, or their spare room, were changed")
	}
}

func TestAnswersStandAlone(t *testing.T) {
	p := build(t, station)
	for _, x := range [][2]int{{2, 0}, {2, 1}, {2, 2}, {7, 0}, {7, 1}} {
		s, from := x[0], x[1]
		a, b := walk.Outs(p, s, from), walk.Outs(p, s, from)
		want := slices.Clone(b)
		a = a[:cap(a)]
		for i := range a {
			a[i] = api.Step{Section: -7, From: -7, To: -7}
		}
		if !slices.Equal(b, want) {
			t.Errorf("an answer was changed to %+v", b)
		}
		outs(t, p, s, from, want...)
	}
}

func TestCallsHangOnTheirArgumentsAlone(t *testing.T) {
	p, q := build(t, station), build(t, "section W 1\njoin W.a W.b\nsignal A W.b\n")
	var all sync.WaitGroup
	for range 8 {
		all.Go(func() {
			for range 100 {
				outs(t, p, 2, 0, api.Step{Section: 2, From: 0, To: 1}, api.Step{Section: 2, From: 0, To: 2})
				outs(t, q, 0, 0, api.Step{Section: 0, From: 0, To: 1})
				next(t, p, 0, 1, 1, 0)
				next(t, q, 0, 1, 0, 0)
				signal(t, p, 0, 1, -1)
				signal(t, q, 0, 1, 0)
				position(t, p, api.Step{Section: 2, From: 0, To: 2}, 2)
				position(t, q, api.Step{Section: 0, From: 0, To: 2}, 0)
			}
		})
	}
	all.Wait()
}
