package route_test

import (
	"math"
	"math/rand"
	"slices"
	"strings"
	"sync"
	"testing"

	"leverman/api"
	"leverman/course"
	"leverman/demand"
	"leverman/example"
	"leverman/flank"
	"leverman/lap"
	"leverman/near"
	"leverman/plan"
	"leverman/route"
	"leverman/sheet"
)

const (
	station = example.Station
	endless = 1 << 50 // the greatest of a plan's numbers
)

// strange are numbers of no signal: some are one of a small station's in fewer bits.
var strange = []int{math.MinInt, math.MinInt + 1, -1 << 32, -256, -3, -2, -1, 12, 13, 256, 257, 1 << 31, 1 << 32, 1<<32 + 1, math.MaxInt - 1, math.MaxInt}

func build(t *testing.T, text string) api.Plan {
	t.Helper()
	l, f := sheet.Parse(text)
	p, g := plan.Build(l)
	if f != (api.Fault{}) || g != (api.Fault{}) {
		t.Fatalf("%q is no station: %+v, %+v", text, f, g)
	}
	return p
}

// yard is a station as a test lays it.
type yard struct{ example.Layout }

func (y *yard) plan(t *testing.T) api.Plan {
	t.Helper()
	return build(t, y.Text())
}

// lead lays a section with a signal, and behind it as many toes, one behind the other, as double its ways, up to where they are stopped.
func (y *yard) lead(name string, doublings int) {
	y.Plain("W" + name)
	from := "W" + name + ".b"
	y.Post(name, from)
	if doublings == 0 {
		y.Row(from, 1)
		return
	}
	y.Fork(y.Diamonds(from, doublings-1))
}

func same(a, b api.Route) bool {
	return a.Entry == b.Entry && a.Exit == b.Exit && slices.Equal(a.Steps, b.Steps) && slices.Equal(a.Lap, b.Lap) &&
		slices.Equal(a.Points, b.Points) && slices.Equal(a.Flanks, b.Flanks) && slices.Equal(a.Near, b.Near) &&
		a.Distance == b.Distance && a.Timer == b.Timer
}

// way gives a way that layer 7 finds.
func way(t *testing.T, p api.Plan, signal, i int) api.Way {
	t.Helper()
	l, err := course.Of(p, signal)
	if err != api.OK || i >= len(l) {
		t.Fatalf("no way %d from signal %d: %d ways, error %d", i, signal, len(l), err)
	}
	return l[i]
}

// of gives the route of a way that layer 7 finds.
func of(t *testing.T, p api.Plan, signal, i int) api.Route {
	t.Helper()
	r, err := route.Of(p, signal, way(t, p, signal, i))
	if err != api.OK {
		t.Fatalf("Of way %d from signal %d: error %d", i, signal, err)
	}
	return r
}

func fails(t *testing.T, p api.Plan, signal int, w api.Way, want api.Errno) {
	t.Helper()
	if got, err := route.Of(p, signal, w); err != want || !same(got, api.Route{}) {
		t.Errorf("Of(%d, %+v) = %+v, %d, want none, %d", signal, w, got, err, want)
	}
}

func answers(t *testing.T, p api.Plan, want []api.Route) {
	t.Helper()
	if got, err := route.All(p); err != api.OK || !slices.EqualFunc(got, want, same) {
		t.Errorf("All = %+v, %d, want %+v, 0, of %+v", got, err, want, p)
	}
}

// count holds how many routes there are.
func count(t *testing.T, p api.Plan, want int) {
	t.Helper()
	if got, err := route.All(p); err != api.OK || len(got) != want {
		t.Errorf("All = %d routes, error %d, want %d, error 0", len(got), err, want)
	}
}

func allFails(t *testing.T, p api.Plan, want api.Errno) {
	t.Helper()
	if got, err := route.All(p); err != want || len(got) != 0 {
		t.Errorf("All = %d routes, error %d, want none, error %d", len(got), err, want)
	}
}

// steps gives steps that are told as section, from, to; section, from, to; and so on.
func steps(numbers ...int) []api.Step {
	var l []api.Step
	for x := range slices.Chunk(numbers, 3) {
		l = append(l, api.Step{Section: x[0], From: x[1], To: x[2]})
	}
	return l
}

// points gives demands that are told as point, position; point, position; and so on.
func points(numbers ...int) []api.Demand {
	var l []api.Demand
	for x := range slices.Chunk(numbers, 2) {
		l = append(l, api.Demand{Point: x[0], Position: x[1]})
	}
	return l
}

// by gives a route by its parts. Its timer is that of the document's station, where no distance adds to the hold.
func by(entry, exit int, steps, behind []api.Step, points []api.Demand, flanks, sections []int, distance int) api.Route {
	return api.Route{Entry: entry, Exit: exit, Steps: steps, Lap: behind, Points: points, Flanks: flanks, Near: sections, Distance: distance, Timer: 1}
}

// routes are those of the document's station, by hand.
func routes() []api.Route {
	return []api.Route{
		by(0, 1, steps(2, 0, 1, 4, 0, 1), steps(3, 1, 0), points(2, 1, 3, 1), []int{2, 5}, []int{6, 7}, 17000),
		by(0, 2, steps(2, 0, 2, 5, 0, 1), steps(3, 2, 0), points(2, 2, 3, 2), []int{1, 4}, []int{6, 7}, 17000),
		by(1, -1, steps(3, 1, 0, 0, 0, 1, 1, 0, 1), nil, points(3, 1), []int{2}, []int{2, 4, 7}, 21000),
		by(2, -1, steps(3, 2, 0, 0, 0, 1, 1, 0, 1), nil, points(3, 2), []int{1}, []int{2, 5, 7}, 21000),
		by(3, 4, steps(3, 0, 1, 4, 1, 0), steps(2, 1, 0), points(2, 1, 3, 1), []int{2, 5}, []int{0, 1}, 17000),
		by(3, 5, steps(3, 0, 2, 5, 1, 0), steps(2, 2, 0), points(2, 2, 3, 2), []int{1, 4}, []int{0, 1}, 17000),
		by(4, -1, steps(2, 1, 0, 7, 1, 0, 6, 1, 0), nil, points(2, 1), []int{5}, []int{0, 3, 4}, 21000),
		by(5, -1, steps(2, 2, 0, 7, 1, 0, 6, 1, 0), nil, points(2, 2), []int{4}, []int{0, 3, 5}, 21000),
		by(6, 0, steps(7, 0, 1), steps(2, 0, 1), points(2, 1), []int{5}, []int{6}, 8000),
		by(7, 3, steps(0, 1, 0), steps(3, 0, 1), points(3, 1), []int{2}, []int{1}, 8000),
	}
}

// P12.1: the document's station.

func TestRoutesInTheStation(t *testing.T) {
	p := build(t, station)
	answers(t, p, routes())
	next := 0
	for signal := range p.Signals {
		ways, _ := course.Of(p, signal)
		for i := range ways {
			if got := of(t, p, signal, i); !same(got, routes()[next]) {
				t.Errorf("way %d from signal %d: %+v, want %+v", i, signal, got, routes()[next])
			}
			next++
		}
	}
	if next != 10 {
		t.Errorf("%d ways", next)
	}
}

// Signals go by their names, whichever is told first.
func TestSignalsInAnyOrder(t *testing.T) {
	l, _ := sheet.Parse(station)
	slices.SortFunc(l[len(l)-8:], func(a, b api.Item) int { return strings.Compare(b.Name, a.Name) })
	p, f := plan.Build(l)
	if f != (api.Fault{}) {
		t.Fatalf("%+v", f)
	}
	answers(t, p, routes())
}

// The station's numbers say what a route has beside its way.
func TestWithoutOverlapAndApproach(t *testing.T) {
	p := build(t, station)
	p.Overlap = 0
	want := routes()
	for i := range want {
		want[i].Lap = nil
	}
	for i, n := range map[int]int{0: 1, 1: 2} {
		want[i].Points, want[4+i].Points = points(2, n), points(3, n)
	}
	want[0].Flanks, want[1].Flanks, want[4].Flanks, want[5].Flanks = []int{5}, []int{4}, []int{2}, []int{1}
	for _, i := range []int{8, 9} {
		want[i].Points, want[i].Flanks = nil, nil
	}
	answers(t, p, want)
	p.Approach = 0
	for i := range want {
		want[i].Near, want[i].Distance = nil, 0
	}
	answers(t, p, want)
	p.Hold = 0
	for i := range want {
		want[i].Timer = 0
	}
	answers(t, p, want)
}

// A way that ends at a buffer stop has its route, too, without an overlap, however long one is asked for.
func TestToABufferStop(t *testing.T) {
	p := build(t, station)
	for _, p.Overlap = range []int{0, 1, endless} {
		if got := of(t, p, 1, 0); !same(got, routes()[2]) {
			t.Errorf("%+v, want %+v, with %d", got, routes()[2], p.Overlap)
		}
	}
}

// A way may have no overlap though one is asked for: its route is there.
func TestWhereThereIsNoOverlap(t *testing.T) {
	y := &yard{}
	y.Plain("W")
	y.Point("P")
	y.Join("W.b", "P.t")
	y.Join("P.n", "P.r")
	y.Post("A", "W.b")
	y.Post("B", "P.n")
	p := y.plan(t)
	p.Overlap = 1
	r := of(t, p, 0, 0)
	if len(r.Lap) != 0 || r.Exit != 1 || !slices.Equal(r.Points, points(0, 1)) {
		t.Errorf("%+v", r)
	}
	count(t, p, 1)
}

// P12.1: the timer.

// Every PerTick of the distance adds a tick to the hold, once it is whole.
func TestTimer(t *testing.T) {
	p := build(t, station)
	p.Approach = 1
	for _, x := range []struct{ distance, ticks int }{
		{1, 0},
		{17000, 0},
		{99999, 0},
		{100000, 1},
		{100001, 1},
		{199999, 1},
		{200000, 2},
		{200001, 2},
		{100000000 - 1, 999},
		{100000000, 1000},
		{300000000, 3000}, // no most of its own
		{api.MaxLength - 1, 10995116},
		{api.MaxLength, 10995116},
	} {
		p.Sections[7].Length = x.distance
		for _, p.Hold = range []int{0, 1, 2, api.MaxTicks - 1, api.MaxTicks, api.MaxTicks + 1, endless} {
			if r := of(t, p, 0, 0); !slices.Equal(r.Near, []int{7}) || r.Distance != x.distance || r.Timer != p.Hold+x.ticks {
				t.Errorf("%+v, want distance %d, timer %d", r, x.distance, p.Hold+x.ticks)
			}
		}
	}
}

// The distance is rounded as a whole, not section by section.
func TestTimerOfSeveralSections(t *testing.T) {
	p := build(t, station)
	p.Approach = endless
	p.Sections[6].Length, p.Sections[7].Length = 60000, 60000
	if r := of(t, p, 0, 0); r.Distance != 120000 || r.Timer != 2 {
		t.Errorf("%+v", r)
	}
	p.Sections[6].Length = 39999
	if r := of(t, p, 0, 0); r.Distance != 99999 || r.Timer != 1 {
		t.Errorf("%+v", r)
	}
}

// As far as there may be: numbers of more than 32 bits.
func TestGreatestTimer(t *testing.T) {
	y := &yard{}
	y.Plain("W")
	y.Post("A", "W.b")
	y.Row("W.b", 1)
	y.Row("W.a", api.MaxSections-2)
	p := build(t, strings.ReplaceAll(y.Text(), " 5\n", " 1099511627776\n"))
	p.Approach, p.Hold = endless, api.MaxTicks
	if r := of(t, p, 0, 0); len(r.Near) != 23 || r.Distance != 23<<40 || r.Timer != 1000+23<<40/100000 {
		t.Errorf("%+v", r)
	}
}

// Settle belongs to no route.
func TestSettleSaysNothing(t *testing.T) {
	p := build(t, station)
	for _, p.Settle = range []int{0, 1, endless} {
		answers(t, p, routes())
	}
}

// P12.1: no routes.

func TestNoRoutes(t *testing.T) {
	answers(t, api.Plan{}, nil)
	answers(t, build(t, ""), nil)
	answers(t, build(t, "overlap 1\napproach 1\nhold 1\nsection W 1\nbuffer W.a\nbuffer W.b\n"), nil)
	// a signal from which there is no way
	answers(t, build(t, "overlap 1\napproach 1\nhold 1\nsection W 1\njoin W.a W.b\nsignal A W.b\n"), nil)
}

// Signals behind the last one lie in spare room: they aren't the station's.
func TestSignalsInSpareRoom(t *testing.T) {
	p := build(t, station)
	w := way(t, p, 0, 0)
	p.Signals = append(slices.Clone(p.Signals), p.Signals[0], p.Signals[1])[:8]
	answers(t, p, routes())
	fails(t, p, 8, w, api.ErrNone)
	p.Signals = p.Signals[:0]
	answers(t, p, nil)
	fails(t, p, 0, w, api.ErrNone)
}

// Errors of Of: layer 8's.

func TestSignalsThatThereArent(t *testing.T) {
	p := build(t, station)
	good, stop := way(t, p, 0, 0), way(t, p, 1, 0)
	for _, p.Overlap = range []int{0, 3000, endless} {
		for _, signal := range append([]int{8, 9, 10, 11}, strange...) {
			fails(t, p, signal, good, api.ErrNone)
			fails(t, p, signal, stop, api.ErrNone)
			fails(t, p, signal, api.Way{Exit: -1}, api.ErrNone)
		}
	}
	for _, signal := range append([]int{0, 1}, strange...) {
		fails(t, api.Plan{}, signal, good, api.ErrNone)
		fails(t, api.Plan{Hold: 7}, signal, stop, api.ErrNone)
	}
}

// A way of another station may end at a signal that isn't there.
func TestExitsThatThereArent(t *testing.T) {
	p := build(t, station)
	w := way(t, p, 0, 0)
	for _, p.Overlap = range []int{0, 3000} {
		for _, w.Exit = range []int{8, 9, 12, 256, 257, 1 << 32, 1<<32 + 1, math.MaxInt} {
			fails(t, p, 0, w, api.ErrNone)
			fails(t, p, 8, w, api.ErrNone)
		}
	}
}

// begun is a yard of the section W with the signal Y at its end b.
func begun() *yard {
	y := &yard{}
	y.Plain("W")
	y.Post("Y", "W.b")
	return y
}

// behind lays, from an end on, V up to the signal Z, and behind that one 17 sections on each of 128 ways: seven pairs of points, leg to leg, with plain ones between and behind. The signal Za parts the ways there.
func (y *yard) behind(from string) {
	y.Plain("V", "X", "U", "T")
	y.Join(from, "V.a")
	y.Post("Z", "V.b")
	last := y.Diamonds("V.b", 4)
	y.Post("Za", last)
	y.Join(last, "X.a")
	y.Join(y.Diamonds("X.b", 3), "U.a")
	y.Join("U.b", "T.a")
}

// chain lays all that behind the signal Y.
func chain() *yard {
	y := begun()
	y.behind("W.b")
	return y
}

// asking builds a chain that asks for an overlap so long: 80 is the most behind Z. For who comes the other way V is long enough.
func (y *yard) asking(t *testing.T, overlap int) api.Plan {
	t.Helper()
	p := y.plan(t)
	p.Sections[plan.Find(p.Sections, "V")].Length = 1000
	p.Overlap = overlap
	return p
}

func TestOverlapsThatTakeTooLong(t *testing.T) {
	p := chain().asking(t, 80)
	if r := of(t, p, 0, 0); len(r.Lap) != api.MaxSteps {
		t.Errorf("an overlap of %d sections: %+v", len(r.Lap), r.Lap)
	}
	count(t, p, 1+16+8)
	p.Overlap = 81
	fails(t, p, 0, way(t, p, 0, 0), api.ErrLong)
	allFails(t, p, api.ErrLong) // though each signal has its ways
	for signal := range p.Signals {
		if _, err := course.Of(p, signal); err != api.OK {
			t.Errorf("no ways from signal %d: error %d", signal, err)
		}
	}
}

// Errors of All: ErrLarge.

func TestAsManyRoutesAsThereMayBe(t *testing.T) {
	for _, x := range []struct {
		doublings []int
		want      int
	}{
		{[]int{4, 3, 2}, 28},
		{[]int{4, 3, 2, 0}, 29},
		{[]int{4, 3, 2, 1}, 30},
		{[]int{1, 2, 3, 4}, 30},
		{[]int{2, 4, 1, 3}, 30},
		{[]int{4, 3, 2, 0, 0}, 30},
		{[]int{4, 3, 2, 1, 0}, 31},
		{[]int{0, 1, 2, 3, 4}, 31},
		{[]int{4, 3, 2, 0, 1}, 31},
		{[]int{3, 3, 3, 3}, 32},
		{[]int{5}, 32},
		{[]int{4, 4}, 32},
		{[]int{6}, 64},
		{[]int{7}, 128},
	} {
		y := &yard{}
		for i, n := range x.doublings {
			y.lead(string(rune('A'+i)), n)
		}
		if x.want > api.MaxRoutes {
			allFails(t, y.plan(t), api.ErrLarge)
		} else {
			count(t, y.plan(t), x.want)
		}
	}
}

// Errors of All, signal by signal.

// crowded lays 17 sections behind the end at which a signal of this name is to stand, which are too many for a way, and further signals: K and L, for who comes the other way, with 24 ways, and M and N with six. The signal O, if it is there, has one more.
func crowded(long string, more bool) *yard {
	y := &yard{}
	y.Plain("W", "X", "U", "T")
	y.Join(y.Diamonds("W.b", 4), "X.a")
	y.Join(y.Diamonds("X.b", 3), "U.a")
	y.Join("U.b", "T.a")
	if long != "" {
		y.Post(long, "W.b")
	}
	y.Post("K", "X.a")
	y.Post("L", "U.a")
	y.lead("M", 2)
	y.lead("N", 1)
	if more {
		y.Post("O", "T.a")
	}
	return y
}

func TestWhichErrorComesFirst(t *testing.T) {
	count(t, crowded("", false).plan(t), 30)
	allFails(t, crowded("", true).plan(t), api.ErrLarge)
	// a signal's ways are all looked for ahead of the first one's route
	for _, long := range []string{"A", "KA", "LA", "MA", "NA", "Z"} {
		allFails(t, crowded(long, false).plan(t), api.ErrLong)
	}
	// 31 routes are too many only where the 31st comes
	allFails(t, crowded("NA", true).plan(t), api.ErrLong)
	allFails(t, crowded("OA", true).plan(t), api.ErrLarge)
	allFails(t, crowded("Z", true).plan(t), api.ErrLarge)
}

// face lays signals whose routes come ahead of Y's, 29 of them: K, L and O for who comes the other way, and M.
func (y *yard) face() {
	y.Post("K", "X.a")
	y.Post("L", "U.a")
	y.Post("O", "T.a")
	y.lead("M", 2)
}

// The 30th route's own error is told, that of the 31st isn't: it is one too many ahead of that.
func TestTooManyAheadOfTooLong(t *testing.T) {
	for _, x := range []struct {
		ahead   int
		overlap int
		want    api.Errno
	}{
		{29, 81, api.ErrLong},
		{29, 80, api.ErrLarge}, // Z's
		{30, 81, api.ErrLarge},
		{30, 80, api.ErrLarge},
	} {
		y := chain()
		y.face()
		if x.ahead == 30 {
			y.Post("J", "V.a")
		}
		p := y.asking(t, x.overlap)
		if n := ahead(t, p, "Y"); n != x.ahead {
			t.Errorf("%d routes ahead of Y's, want %d", n, x.ahead)
		}
		allFails(t, p, x.want)
	}
}

// Way by way: of a signal that has one too many, the one ahead of that comes first.
func TestTooLongAheadOfTooMany(t *testing.T) {
	for leg, want := range map[string]api.Errno{"P.n": api.ErrLong, "P.r": api.ErrLarge} {
		y := begun()
		y.Point("P")
		y.Join("W.b", "P.t")
		y.behind(leg)
		y.face()
		p := y.asking(t, 81)
		if n := ahead(t, p, "Y"); n != 29 {
			t.Errorf("%d routes ahead of Y's", n)
		}
		allFails(t, p, want)
	}
}

// ahead gives how many routes there are of the signals ahead of one.
func ahead(t *testing.T, p api.Plan, name string) int {
	t.Helper()
	signal := slices.IndexFunc(p.Signals, func(s api.Signal) bool { return s.Name == name })
	n := 0
	for i := range signal {
		ways, err := course.Of(p, i)
		if err != api.OK {
			t.Errorf("no ways from signal %d: error %d", i, err)
		}
		for j := range ways {
			of(t, p, i, j)
			n++
		}
	}
	return n
}

// P12.1, P12.2: stations that are drawn.

// tally counts what was held, so that a test isn't held by short answers alone.
type tally struct{ none, some, many, large, long int }

// happening is a step on the way to all routes: a signal's ways that are found, or aren't, or a way's route.
type happening struct {
	err api.Errno
	way bool
}

// happenings gives what happens till all routes are found, with all that comes behind an error, too.
func happenings(p api.Plan) ([]happening, []api.Route) {
	var l []happening
	var all []api.Route
	for signal := range p.Signals {
		ways, err := course.Of(p, signal)
		l = append(l, happening{err: err})
		for _, w := range ways {
			r, err := route.Of(p, signal, w)
			l = append(l, happening{err, true})
			all = append(all, r)
		}
	}
	return l, all
}

// told gives what all routes are, or the error that is told first.
func told(p api.Plan) ([]api.Route, api.Errno) {
	l, all := happenings(p)
	routes := 0
	for _, x := range l {
		if x.way {
			routes++
		}
		if routes == 31 {
			return nil, api.ErrLarge
		}
		if x.err != api.OK {
			return nil, x.err
		}
	}
	return all, api.OK
}

// parts holds that each part of a way's route is the layers'.
func parts(t *testing.T, p api.Plan, signal int, w api.Way) {
	t.Helper()
	r, err := route.Of(p, signal, w)
	behind, fault := lap.Of(p, signal, w)
	if err != fault {
		t.Errorf("Of(%d, %+v): error %d, want %d, of %+v", signal, w, err, fault, p)
	}
	if fault != api.OK {
		if !same(r, api.Route{}) {
			t.Errorf("Of(%d, %+v) = %+v beside an error, of %+v", signal, w, r, p)
		}
		return
	}
	if r.Entry != signal || r.Exit != w.Exit || !slices.Equal(r.Steps, w.Steps) || !slices.Equal(r.Lap, behind) {
		t.Errorf("%+v is no route of %+v from signal %d, with %+v, of %+v", r, w, signal, behind, p)
	}
	asked, flanks := flank.Of(p, w.Steps, behind)
	if !slices.Equal(r.Points, asked) || !slices.Equal(r.Flanks, flanks) {
		t.Errorf("%+v asks for other points, or signals, than %v, %v, of %+v", r, asked, flanks, p)
	}
	sections, distance := near.Of(p, signal)
	if !slices.Equal(r.Near, sections) || r.Distance != distance {
		t.Errorf("%+v: other sections near than %v, %d, of %+v", r, sections, distance, p)
	}
	if rest := r.Distance - (r.Timer-p.Hold)*100000; rest < 0 || rest >= 100000 {
		t.Errorf("timer %d for %d, with %d, of %+v", r.Timer, r.Distance, p.Hold, p)
	}
	own := demand.Of(p, slices.Concat(w.Steps, behind))
	for _, x := range own {
		if demand.Position(r.Points, x.Point) != x.Position {
			t.Errorf("%+v asks otherwise for %+v, of %+v", r, x, p)
		}
	}
}

// holds holds all of a station's routes, and each for itself.
func holds(t *testing.T, p api.Plan, c *tally) {
	t.Helper()
	want, fault := told(p)
	got, err := route.All(p)
	if err != fault || !slices.EqualFunc(got, want, same) {
		t.Errorf("All = %+v, %d, want %+v, %d, of %+v", got, err, want, fault, p)
	}
	for signal := range p.Signals {
		ways, _ := course.Of(p, signal)
		for _, w := range ways[:min(len(ways), 40)] {
			parts(t, p, signal, w)
			// a way of another signal has its parts, too
			parts(t, p, (signal+1)%len(p.Signals), w)
		}
	}
	switch {
	case fault == api.ErrLarge:
		c.large++
	case fault != api.OK:
		c.long++
	case len(want) == 0:
		c.none++
	case len(want) < 6:
		c.some++
	default:
		c.many++
	}
}

// numbered draws a station's numbers, and the lengths of its sections.
func numbered(r *rand.Rand, p api.Plan) api.Plan {
	most := []int{1, 3, 1000, 90000, api.MaxLength}[r.Intn(5)]
	for i := range p.Sections {
		p.Sections[i].Length = 1 + r.Intn(most)
	}
	number := func() int {
		return []int{0, 1, 1 + r.Intn(2*most), 1 + r.Intn(8*most), r.Intn(1001), endless}[r.Intn(6)]
	}
	p.Overlap, p.Approach, p.Settle, p.Hold = number(), number(), number(), number()
	return p
}

func TestDrawnSmallStations(t *testing.T) {
	r := rand.New(rand.NewSource(18))
	var c tally
	for range 6000 {
		points, plains := r.Intn(5), 1+r.Intn(5)
		ends := 3*points + 2*plains
		p := build(t, example.Drawn(r.Intn, points, plains, ends/2-r.Intn(3), r.Intn(7)))
		holds(t, numbered(r, p), &c)
		if t.Failed() {
			return
		}
	}
	if c.none < 500 || c.some < 500 || c.many < 500 {
		t.Errorf("too few of a kind: %+v", c)
	}
}

func TestDrawnGreatStations(t *testing.T) {
	r := rand.New(rand.NewSource(19))
	var c tally
	for range 3000 {
		sections := 12 + r.Intn(13)
		points := r.Intn(sections + 1)
		ends := 2*sections + points
		p := build(t, example.Drawn(r.Intn, points, sections-points, ends/2-r.Intn(3), 2+r.Intn(11)))
		holds(t, numbered(r, p), &c)
		if t.Failed() {
			return
		}
	}
	if c.many < 500 || c.large < 20 || c.long < 50 {
		t.Errorf("too few of a kind: %+v", c)
	}
}

// grow lays up to so many sections behind an end, most of them with legs that meet again, with a signal now and then, for who goes there, or comes back.
func (y *yard) grow(r *rand.Rand, from string, most int, names *int) {
	for most > 2 && r.Intn(16) > 0 {
		if r.Intn(4) == 0 && *names < 'L' {
			y.Post(string(rune(*names)), from)
			*names++
		}
		switch n := r.Intn(12); {
		case n < 6:
			from = y.Diamonds(from, 1)
			most -= 2
		case n < 10:
			from = y.Row(from, 1)
			most--
			if r.Intn(3) == 0 && *names < 'L' {
				y.Post(string(rune(*names)), strings.TrimSuffix(from, "b")+"a")
				*names++
			}
		default:
			normal, reverse := y.Fork(from)
			cut := r.Intn(most)
			y.grow(r, normal, cut, names)
			y.grow(r, reverse, most-1-cut, names)
			return
		}
	}
	if most > 0 {
		y.Ring(from)
	}
}

func TestGrownStations(t *testing.T) {
	r := rand.New(rand.NewSource(20))
	var c tally
	for range 1500 {
		y := &yard{}
		y.Plain("W")
		names := int('A')
		y.grow(r, y.Diamonds("W.b", 1), 20, &names)
		y.Post([]string{"0", "Z"}[r.Intn(2)], "W.b")
		holds(t, numbered(r, build(t, y.Text())), &c)
		if t.Failed() {
			return
		}
	}
	if c.some < 150 || c.many < 150 || c.large < 150 || c.long < 50 {
		t.Errorf("too few of a kind: %+v", c)
	}
}

// What is handed in isn't changed, answers are new, nothing is kept, and many may call at once.

// clone gives a route that shares nothing with the one handed in.
func clone(r api.Route) api.Route {
	r.Steps, r.Lap, r.Points = slices.Clone(r.Steps), slices.Clone(r.Lap), slices.Clone(r.Points)
	r.Flanks, r.Near = slices.Clone(r.Flanks), slices.Clone(r.Near)
	return r
}

// spoilt writes over all that a list holds, its spare room, too.
func spoilt[T any](l []T, x T) {
	l = l[:cap(l)]
	for i := range l {
		l[i] = x
	}
}

// spoil writes over all of a route's lists, one by one, and holds that those that are left stay as they were.
func spoil(t *testing.T, r api.Route) {
	t.Helper()
	want := clone(r)
	step := api.Step{Section: -7, From: -7, To: -7}
	spoilt(r.Steps, step)
	spoilt(r.Points, api.Demand{Point: -7, Position: -7})
	spoilt(r.Flanks, -7)
	if !slices.Equal(r.Lap, want.Lap) || !slices.Equal(r.Near, want.Near) {
		t.Errorf("lists of one route share their memory: %+v, it was %+v", r, want)
	}
	spoilt(r.Lap, step)
	spoilt(r.Near, -7)
}

func TestWhatIsHandedInStaysAsItWas(t *testing.T) {
	p := build(t, station)
	p.Sections = slices.Grow(slices.Clone(p.Sections), 4)
	p.Signals = slices.Grow(slices.Clone(p.Signals), 4)
	sections, signals := slices.Clone(p.Sections[:cap(p.Sections)]), slices.Clone(p.Signals[:cap(p.Signals)])
	for i, n := range []int{2, 1, 1, 2, 1, 1, 1, 1} {
		for k := range n {
			w := way(t, p, i, k)
			w.Steps = append(slices.Grow(w.Steps, 20), api.Step{Section: 7}, api.Step{Section: 6})[:len(w.Steps)]
			all := slices.Clone(w.Steps[:cap(w.Steps)])
			r, _ := route.Of(p, i, w)
			spoil(t, r)
			if !slices.Equal(w.Steps[:cap(w.Steps)], all) {
				t.Error("a way, or its spare room, was changed, or is shared")
			}
		}
	}
	l, _ := route.All(p)
	for _, r := range l {
		spoil(t, r)
	}
	if !slices.Equal(p.Sections[:cap(p.Sections)], sections) || !slices.Equal(p.Signals[:cap(p.Signals)], signals) {
		t.Error("a plan, or its spare room, was changed")
	}
	answers(t, p, routes())
}

func TestAnswersStandAlone(t *testing.T) {
	p := build(t, station)
	a, _ := route.All(p)
	b, _ := route.All(p)
	for i := range a {
		spoil(t, a[i])
		if !slices.EqualFunc(a[i+1:], routes()[i+1:], same) || !slices.EqualFunc(b, routes(), same) {
			t.Fatalf("route %d shares its lists", i)
		}
	}
	clear(a[:cap(a)])
	if !slices.EqualFunc(b, routes(), same) {
		t.Error("two answers share their routes")
	}
}

func TestCallsHangOnTheirArgumentsAlone(t *testing.T) {
	p, q := build(t, station), build(t, station)
	q.Approach, q.Hold = 9000, 3
	y := &yard{}
	y.lead("A", 5)
	large, long := y.plan(t), chain().asking(t, 81)
	w := way(t, p, 0, 0)
	want := clone(routes()[0])
	want.Near, want.Distance, want.Timer = []int{7}, 9000, 3
	var all sync.WaitGroup
	for range 8 {
		all.Go(func() {
			for range 50 {
				answers(t, p, routes())
				allFails(t, large, api.ErrLarge)
				allFails(t, long, api.ErrLong)
				if r, err := route.Of(q, 0, w); err != api.OK || !same(r, want) {
					t.Errorf("%+v, %d, want %+v", r, err, want)
				}
				fails(t, p, 8, w, api.ErrNone)
			}
		})
	}
	all.Wait()
}
