package demand_test

import (
	"maps"
	"math"
	"math/rand"
	"slices"
	"sync"
	"testing"

	"leverman/api"
	"leverman/course"
	"leverman/demand"
	"leverman/example"
	"leverman/lap"
	"leverman/plan"
	"leverman/sheet"
	"leverman/walk"
)

const station = example.Station

// strange are numbers of no point: some are one of a small station's in fewer bits.
var strange = []int{math.MinInt, math.MinInt + 1, -1 << 32, -256, -3, -2, -1, 24, 25, 256, 257, 1 << 31, 1 << 32, 1<<32 + 2, 1<<32 + 3, math.MaxInt - 1, math.MaxInt}

func build(t *testing.T, text string) api.Plan {
	t.Helper()
	l, f := sheet.Parse(text)
	p, g := plan.Build(l)
	if f != (api.Fault{}) || g != (api.Fault{}) {
		t.Fatalf("%q is no station: %+v, %+v", text, f, g)
	}
	return p
}

// list gives demands of pairs of numbers: a point, and its position.
func list(numbers ...int) []api.Demand {
	var l []api.Demand
	for i := 0; i < len(numbers); i += 2 {
		l = append(l, api.Demand{Point: numbers[i], Position: numbers[i+1]})
	}
	return l
}

func position(t *testing.T, l []api.Demand, point, want int) {
	t.Helper()
	if got := demand.Position(l, point); got != want {
		t.Errorf("Position(%v, %d) = %d, want %d", l, point, got, want)
	}
}

func put(t *testing.T, l []api.Demand, x api.Demand, want []api.Demand) {
	t.Helper()
	if got := demand.Put(l, x); !slices.Equal(got, want) {
		t.Errorf("Put(%v, %v) = %v, want %v", l, x, got, want)
	}
}

func of(t *testing.T, p api.Plan, l []api.Step, want []api.Demand) {
	t.Helper()
	if got := demand.Of(p, l); !slices.Equal(got, want) {
		t.Errorf("Of(%+v) = %v, want %v", l, got, want)
	}
}

func opposed(t *testing.T, a, b []api.Demand, want bool) {
	t.Helper()
	if got := demand.Opposed(a, b); got != want {
		t.Errorf("Opposed(%v, %v) = %t, want %t", a, b, got, want)
	}
}

// either holds what is told of two sets, whichever is first.
func either(t *testing.T, a, b []api.Demand, want bool) {
	t.Helper()
	opposed(t, a, b, want)
	opposed(t, b, a, want)
}

// P9.1: Position.

func TestPosition(t *testing.T) {
	l := list(2, 2, 5, 1, 7, 2)
	for point := -1; point < 9; point++ {
		want := map[int]int{2: 2, 5: 1, 7: 2}[point]
		position(t, l, point, want)
		position(t, nil, point, 0)
		position(t, []api.Demand{}, point, 0)
		position(t, l[:0], point, 0)
	}
	for _, point := range strange {
		position(t, l, point, 0)
	}
}

// Of several the first one is told, whatever its position is.
func TestPositionOfTheFirst(t *testing.T) {
	position(t, list(3, 1, 3, 2), 3, 1)
	position(t, list(3, 2, 3, 1), 3, 2)
	position(t, list(9, 1, 3, 2, 1, 1, 3, 1), 3, 2)
	position(t, list(3, 0, 3, 2), 3, 0)
	position(t, list(3, -1, 3, 2), 3, -1)
	position(t, list(0, 0, 0, 1), 0, 0)
}

// Lists may stand in any order.
func TestPositionInAnyOrder(t *testing.T) {
	l := list(7, 2, 0, 1, 5, 2, 2, 1)
	for point, want := range map[int]int{7: 2, 0: 1, 5: 2, 2: 1, 1: 0, 3: 0, 6: 0, 8: 0} {
		position(t, l, point, want)
	}
}

func TestPositionOfAnyNumbers(t *testing.T) {
	var l []api.Demand
	for i, n := range strange {
		position(t, l, n, 0)
		l = append(l, list(n, strange[len(strange)-1-i])...)
		position(t, l, n, strange[len(strange)-1-i])
		position(t, list(n, n), n, n)
		position(t, list(4, n), 4, n)
	}
	for point := range 9 {
		position(t, l, point, 0)
	}
}

// P9.1: Put.

func TestPutAtItsPlace(t *testing.T) {
	put(t, nil, api.Demand{Point: 5, Position: 1}, list(5, 1))
	put(t, []api.Demand{}, api.Demand{Point: 0, Position: 2}, list(0, 2))
	l := list(2, 2, 5, 1)
	put(t, l, api.Demand{Point: 0, Position: 1}, list(0, 1, 2, 2, 5, 1))
	put(t, l, api.Demand{Point: 1, Position: 2}, list(1, 2, 2, 2, 5, 1))
	put(t, l, api.Demand{Point: 3, Position: 1}, list(2, 2, 3, 1, 5, 1))
	put(t, l, api.Demand{Point: 4, Position: 2}, list(2, 2, 4, 2, 5, 1))
	put(t, l, api.Demand{Point: 6, Position: 1}, list(2, 2, 5, 1, 6, 1))
	put(t, l, api.Demand{Point: 23, Position: 2}, list(2, 2, 5, 1, 23, 2))
}

// A point that is asked for already stays as it is.
func TestPutWhatIsAskedForAlready(t *testing.T) {
	l := list(2, 2, 5, 1)
	for _, x := range list(2, 1, 2, 2, 2, 0, 2, -1, 5, 2, 5, 1, 5, 0, 5, 3) {
		put(t, l, x, l)
	}
	// any position but 0 asks
	put(t, list(4, -1), api.Demand{Point: 4, Position: 1}, list(4, -1))
	put(t, list(4, 3), api.Demand{Point: 4, Position: 1}, list(4, 3))
}

func TestTheChaptersExample(t *testing.T) {
	l := demand.Put(demand.Put(nil, api.Demand{Point: 5, Position: api.Normal}), api.Demand{Point: 2, Position: api.Reverse})
	put(t, l, api.Demand{Point: 5, Position: api.Reverse}, list(2, 2, 5, 1))
}

// One in position 0 is as none, but stands in the list, and one like it is put ahead of it.
func TestPutOfPositionNought(t *testing.T) {
	put(t, nil, api.Demand{Point: 3}, list(3, 0))
	put(t, list(3, 0), api.Demand{Point: 3}, list(3, 0, 3, 0))
	put(t, list(3, 0), api.Demand{Point: 3, Position: 2}, list(3, 2, 3, 0))
	put(t, list(1, 1, 3, 0, 3, 1, 4, 1), api.Demand{Point: 3, Position: 2}, list(1, 1, 3, 2, 3, 0, 3, 1, 4, 1))
	put(t, list(1, 1, 4, 1), api.Demand{Point: 3}, list(1, 1, 3, 0, 4, 1))
}

// In a list that isn't in order the place is ahead of the first one that isn't less.
func TestPutIntoAnyOrder(t *testing.T) {
	l := list(7, 2, 0, 1, 5, 2, 2, 1)
	put(t, l, api.Demand{Point: 1, Position: 1}, list(1, 1, 7, 2, 0, 1, 5, 2, 2, 1))
	put(t, l, api.Demand{Point: 6, Position: 2}, list(6, 2, 7, 2, 0, 1, 5, 2, 2, 1))
	put(t, l, api.Demand{Point: 8, Position: 2}, list(7, 2, 0, 1, 5, 2, 2, 1, 8, 2))
	put(t, l, api.Demand{Point: 2, Position: 2}, l)
	l = list(2, 1, 0, 1, 5, 2, 3, 1, 9, 2)
	put(t, l, api.Demand{Point: 4, Position: 1}, list(2, 1, 0, 1, 4, 1, 5, 2, 3, 1, 9, 2))
	put(t, l, api.Demand{Point: 1, Position: 1}, list(1, 1, 2, 1, 0, 1, 5, 2, 3, 1, 9, 2))
	put(t, l, api.Demand{Point: 7, Position: 1}, list(2, 1, 0, 1, 5, 2, 3, 1, 7, 1, 9, 2))
}

func TestPutOfAnyNumbers(t *testing.T) {
	var want []api.Demand
	for _, n := range strange {
		want = append(want, list(n, 1-n&1)...) // those of odd points in position 0
	}
	l := []api.Demand{}
	for _, i := range rand.New(rand.NewSource(3)).Perm(len(want)) {
		l = demand.Put(l, want[i])
	}
	if !slices.Equal(l, want) {
		t.Errorf("%v, want %v", l, want)
	}
	put(t, list(0, math.MinInt), api.Demand{Position: math.MaxInt}, list(0, math.MinInt))
	put(t, list(0, 1), api.Demand{Point: 1, Position: math.MinInt}, list(0, 1, 1, math.MinInt))
}

func TestPutIntoALongList(t *testing.T) {
	var l []api.Demand
	for i := range 1 << 16 {
		l = append(l, list(2*i, 1+i&1)...)
	}
	for _, i := range []int{0, 1, 1 << 8, 1<<16 - 1} {
		put(t, l, l[i], l)
		x := api.Demand{Point: 2*i - 1, Position: 2}
		put(t, l, x, slices.Insert(slices.Clone(l), i, x))
	}
	put(t, l, api.Demand{Point: 1 << 17, Position: 1}, append(slices.Clone(l), list(1<<17, 1)...))
}

// P9.1: Of.

func TestOfStepsInTheStation(t *testing.T) {
	p := build(t, station)
	w, u := api.Step{Section: 7, From: 0, To: 1}, api.Step{Section: 5, From: 0, To: 1}
	for _, x := range []struct {
		steps []api.Step
		want  []api.Demand
	}{
		{nil, nil},
		{[]api.Step{}, nil},
		{[]api.Step{w}, nil},
		{[]api.Step{{Section: 2, From: 0, To: 1}}, list(2, 1)},
		{[]api.Step{{Section: 2, From: 0, To: 2}}, list(2, 2)},
		{[]api.Step{{Section: 2, From: 1, To: 0}}, list(2, 1)},
		{[]api.Step{{Section: 2, From: 2, To: 0}}, list(2, 2)},
		{[]api.Step{w, {Section: 2, From: 0, To: 2}, u, {Section: 3, From: 2, To: 0}}, list(2, 2, 3, 2)},
		// in order of their points, not of the steps
		{[]api.Step{{Section: 3, From: 0, To: 2}, u, {Section: 2, From: 1, To: 0}, w}, list(2, 1, 3, 2)},
		// each as it is gone through first
		{[]api.Step{{Section: 3, From: 0, To: 2}, {Section: 2, From: 1, To: 0}, {Section: 3, From: 1, To: 0}, {Section: 2, From: 0, To: 2}}, list(2, 1, 3, 2)},
	} {
		of(t, p, x.steps, x.want)
	}
}

// A section 0, and a point 0, are ones, too.
func TestOfThePointNought(t *testing.T) {
	p := build(t, "point P 5000\nsection S 1\njoin P.n S.a\nbuffer S.b\nbuffer P.t\nbuffer P.r\n")
	of(t, p, []api.Step{{Section: 0, From: 2}, {Section: 1, To: 1}, {Section: 0, To: 1}}, list(0, 2))
	of(t, p, []api.Step{{Section: 1, To: 1}, {Section: 0, To: 1}, {Section: 0, To: 2}}, list(0, 1))
	of(t, p, []api.Step{{Section: 1, To: 1}, {Section: 1, From: 1}}, nil)
}

// Steps may be any: those of position 0 ask for nothing, others as layer 6 tells.
func TestOfAnySteps(t *testing.T) {
	p := build(t, station)
	of(t, p, []api.Step{{Section: 2}, {Section: 2, From: -1, To: -2}, {Section: 2, From: math.MinInt, To: math.MinInt}}, nil)
	of(t, p, []api.Step{{Section: 2}, {Section: 2, From: -1, To: 2}, {Section: 2, To: 1}}, list(2, 2))
	of(t, p, []api.Step{{Section: 3, From: 1, To: 2}, {Section: 2, From: 1, To: 1}}, list(2, 1, 3, 2))
	of(t, p, []api.Step{{Section: 3, From: 100, To: 7}, {Section: 3, From: 1}}, list(3, 100))
	of(t, p, []api.Step{{Section: 3, From: math.MinInt, To: math.MaxInt}}, list(3, math.MaxInt))
	for _, s := range append([]int{0, 1, 4, 5, 6, 7, 8, 9}, strange...) {
		x := api.Step{Section: s, From: 0, To: 2}
		of(t, p, []api.Step{x}, nil)
		of(t, p, []api.Step{x, {Section: 3, From: 2}, x}, list(3, 2))
		of(t, api.Plan{}, []api.Step{x}, nil)
	}
}

// Sections behind the last one lie in spare room: they aren't the station's.
func TestOfSectionsInSpareRoom(t *testing.T) {
	p := build(t, station)
	p.Sections = append(slices.Clone(p.Sections), p.Sections[2], p.Sections[3])[:8]
	of(t, p, []api.Step{{Section: 8, To: 1}, {Section: 9, To: 2}, {Section: 2, To: 1}}, list(2, 1))
}

// A plan's numbers say nothing of what is asked for.
func TestNumbersSayNothing(t *testing.T) {
	p := build(t, station)
	p.Overlap, p.Approach, p.Settle, p.Hold = 1<<50, 1<<50, 1<<50, 1<<50
	of(t, p, []api.Step{{Section: 3, To: 2}, {Section: 2, To: 1}}, list(2, 1, 3, 2))
}

func TestOfManySteps(t *testing.T) {
	p := build(t, station)
	l := slices.Repeat([]api.Step{{Section: 7, To: 1}, {Section: 3, To: 1}, {Section: 3, To: 2}}, 1<<14)
	of(t, p, l, list(3, 1))
	of(t, p, append(l, api.Step{Section: 2, From: 2}, api.Step{Section: 2, From: 1}), list(2, 2, 3, 1))
}

// As many points as there may be, gone through in an order that is drawn, some of them twice.
func TestOfTheGreatestStation(t *testing.T) {
	r := rand.New(rand.NewSource(4))
	text := ""
	for i := range api.MaxSections {
		name := "P" + string(rune('A'+i))
		text += "point " + name + " 5\nbuffer " + name + ".t\nbuffer " + name + ".n\nbuffer " + name + ".r\n"
	}
	p := build(t, text)
	for range 200 {
		first := map[int]int{}
		var l []api.Step
		for _, s := range append(r.Perm(api.MaxSections), r.Perm(api.MaxSections)...) {
			x := api.Step{Section: s, To: 1 + r.Intn(2)}
			if _, ok := first[s]; !ok {
				first[s] = x.To
			}
			l = append(l, x)
		}
		var want []api.Demand
		for s := range api.MaxSections {
			want = append(want, list(s, first[s])...)
		}
		of(t, p, l, want)
	}
}

// P9.1: Opposed.

func TestOpposed(t *testing.T) {
	l := list(2, 2, 5, 1)
	either(t, l, list(5, 2), true)
	either(t, l, list(2, 1), true)
	either(t, l, list(2, 2, 5, 2), true)
	either(t, l, list(2, 1, 5, 1), true)
	either(t, l, list(0, 1, 2, 2, 3, 1, 5, 2), true)
	either(t, l, l, false)
	either(t, l, list(5, 1), false)
	either(t, l, list(2, 2), false)
	either(t, l, list(3, 1, 5, 1), false)
	either(t, l, list(0, 1, 1, 2, 3, 1, 4, 2, 6, 1), false)
	either(t, list(0, 1), list(0, 2), true)
	either(t, list(0, 1), list(0, 1), false)
	for _, none := range [][]api.Demand{nil, {}} {
		either(t, l, none, false)
		either(t, none, nil, false)
	}
}

// Each demand of the first list counts, and of the second one the first of its point.
func TestOpposedOfSeveral(t *testing.T) {
	opposed(t, list(3, 1, 3, 2), list(3, 1), true)
	opposed(t, list(3, 2, 3, 1), list(3, 1), true)
	opposed(t, list(3, 1), list(3, 1, 3, 2), false)
	opposed(t, list(3, 1), list(3, 2, 3, 1), true)
	opposed(t, list(3, 1, 3, 1), list(4, 2, 3, 1, 3, 2), false)
	opposed(t, list(3, 1, 3, 2), list(3, 1, 3, 2), true)
}

// Where the second list tells 0 it asks for nothing; a 0 of the first one is another position than any.
func TestOpposedToNought(t *testing.T) {
	opposed(t, list(3, 1), list(3, 0), false)
	opposed(t, list(3, 1), list(3, 0, 3, 2), false)
	opposed(t, list(3, 0), list(3, 0), false)
	opposed(t, list(3, 0), list(4, 2), false)
	opposed(t, list(3, 0), list(3, 2), true)
	opposed(t, list(3, 0), list(3, -1), true)
}

func TestOpposedInAnyOrder(t *testing.T) {
	a := list(7, 2, 0, 1, 5, 2, 2, 1)
	either(t, a, list(2, 1, 5, 2, 0, 1, 7, 2), false)
	either(t, a, list(2, 2, 5, 2, 0, 1, 7, 2), true)
	either(t, a, list(9, 1, 2, 1, 5, 1), true)
	either(t, a, list(9, 1, 3, 2, 0, 1), false)
}

func TestOpposedOfAnyNumbers(t *testing.T) {
	for _, n := range strange {
		either(t, list(n, 1), list(n, 2), true)
		either(t, list(n, 1), list(n, 1), false)
		either(t, list(n, 1), list(0, 2, 2, 2, 3, 2), false)
		either(t, list(3, n), list(3, n), false)
		for _, m := range strange {
			either(t, list(3, n), list(3, m), n != m)
		}
	}
}

// P9.1, P9.2: all small lists, held against finders of another make.

// toldPosition goes from the last demand to the first one, which is told at last.
func toldPosition(l []api.Demand, point int) int {
	n := 0
	for i := len(l) - 1; i >= 0; i-- {
		if l[i].Point == point {
			n = l[i].Position
		}
	}
	return n
}

// toldPut lets a demand sink behind those that are less, up to the first one that isn't.
func toldPut(l []api.Demand, x api.Demand) []api.Demand {
	if toldPosition(l, x.Point) != 0 {
		return l
	}
	all := append([]api.Demand{x}, l...)
	for i := 1; i < len(all) && all[i].Point < x.Point; i++ {
		all[i-1], all[i] = all[i], all[i-1]
	}
	return all
}

// toldOpposed looks for pairs, of which the second is the first of its point.
func toldOpposed(a, b []api.Demand) bool {
	pairs := 0
	seen := map[int]bool{}
	for _, y := range b {
		if !seen[y.Point] && y.Position != 0 {
			for _, x := range a {
				if x.Point == y.Point && x.Position != y.Position {
					pairs++
				}
			}
		}
		seen[y.Point] = true
	}
	return pairs > 0
}

// small gives all lists of up to so many demands, of so many points, from 0 on, in positions -1 to 2.
func small(most, points int) [][]api.Demand {
	all := [][]api.Demand{nil}
	for from := 0; most > 0; most-- {
		to := len(all)
		for _, l := range all[from:to] {
			for i := range 4 * points {
				all = append(all, append(slices.Clone(l), api.Demand{Point: i / 4, Position: i%4 - 1}))
			}
		}
		from = to
	}
	return all
}

func TestAllSmallLists(t *testing.T) {
	lists := small(3, 4)
	if want := 1 + 16 + 16*16 + 16*16*16; len(lists) != want {
		t.Fatalf("%d lists, want %d", len(lists), want)
	}
	for _, l := range lists {
		for point := -1; point < 5; point++ {
			position(t, l, point, toldPosition(l, point))
			for n := -1; n < 4; n++ {
				x := api.Demand{Point: point, Position: n}
				put(t, l, x, toldPut(l, x))
			}
		}
		if t.Failed() {
			return
		}
	}
}

func TestAllSmallListsOpposed(t *testing.T) {
	lists := small(3, 2)
	for _, a := range lists {
		for _, b := range lists {
			opposed(t, a, b, toldOpposed(a, b))
		}
		if t.Failed() {
			return
		}
	}
}

// P9.2: as sets.

// set puts demands one behind the other.
func set(l []api.Demand) []api.Demand {
	var all []api.Demand
	for _, x := range l {
		all = demand.Put(all, x)
	}
	return all
}

// drawn gives demands of some of 24 points, in position 1 or 2, some of them more than once.
func drawn(r *rand.Rand) []api.Demand {
	var l []api.Demand
	points := 1 + r.Intn(24)
	for range r.Intn(40) {
		l = append(l, list(r.Intn(points), 1+r.Intn(2))...)
	}
	return l
}

// first gives of each point the position in which it is asked for first.
func first(l []api.Demand) map[int]int {
	m := map[int]int{}
	for _, x := range l {
		if _, ok := m[x.Point]; !ok {
			m[x.Point] = x.Position
		}
	}
	return m
}

func TestDemandsStandByTheirPoints(t *testing.T) {
	r := rand.New(rand.NewSource(5))
	for range 4000 {
		l := drawn(r)
		m := first(l)
		var want []api.Demand
		for _, point := range slices.Sorted(maps.Keys(m)) {
			want = append(want, list(point, m[point])...)
		}
		got := set(l)
		if !slices.Equal(got, want) {
			t.Fatalf("%v put one behind the other: %v, want %v", l, got, want)
		}
		for point := range 25 {
			position(t, got, point, m[point])
			position(t, l, point, m[point])
		}
		// put once more, they say nothing new
		for _, x := range l {
			put(t, got, x, got)
		}
	}
}

func TestOpposedWhicheverIsFirst(t *testing.T) {
	r := rand.New(rand.NewSource(6))
	yes := 0
	for range 8000 {
		a, b := set(drawn(r)), set(drawn(r))
		m, want := first(a), false
		for point, n := range first(b) {
			want = want || m[point] != 0 && m[point] != n
		}
		either(t, a, b, want)
		if want {
			yes++
		}
		// what both ask for, put together, is opposed to one just if they are
		either(t, set(slices.Concat(a, b)), b, want)
		either(t, set(slices.Concat(a, b)), a, false)
	}
	if yes < 1000 || yes > 7000 {
		t.Errorf("%d of 8000 are opposed", yes)
	}
}

// wayAsks holds what steps of a way, in which no section is twice, ask for: one demand a point, as it is gone through, there as back.
func wayAsks(t *testing.T, p api.Plan, l []api.Step) []api.Demand {
	t.Helper()
	m := map[int]int{}
	var back []api.Step
	for _, x := range slices.Backward(l) {
		if n := walk.Position(p, x); n > 0 {
			m[x.Section] = n
		}
		back = append(back, api.Step{Section: x.Section, From: x.To, To: x.From})
	}
	var want []api.Demand
	for _, point := range slices.Sorted(maps.Keys(m)) {
		want = append(want, list(point, m[point])...)
	}
	of(t, p, l, want)
	of(t, p, back, want)
	return want
}

func TestWaysOfDrawnStations(t *testing.T) {
	r := rand.New(rand.NewSource(7))
	asked, pairs := 0, 0
	for range 2000 {
		points, plains := 1+r.Intn(8), 1+r.Intn(8)
		p := build(t, example.Drawn(r.Intn, points, plains, (3*points+2*plains)/2-r.Intn(3), 1+r.Intn(6)))
		p.Overlap = 1 + r.Intn(20)
		var all [][]api.Demand
		for signal := range p.Signals {
			ways, _ := course.Of(p, signal)
			for _, w := range ways {
				l, _ := lap.Of(p, signal, w)
				all = append(all, wayAsks(t, p, slices.Concat(w.Steps, l)))
			}
		}
		for _, a := range all {
			asked += len(a)
			for _, b := range all {
				want := toldOpposed(a, b)
				either(t, a, b, want)
				if want {
					pairs++
				}
			}
		}
		if t.Failed() {
			return
		}
	}
	if asked < 5000 || pairs < 5000 {
		t.Errorf("too few: %d demands, %d pairs that are opposed", asked, pairs)
	}
}

// What is handed in isn't changed, answers are new, nothing is kept, and many may call at once.

// spare gives demands with room behind them, that is filled.
func spare(l []api.Demand) []api.Demand {
	n := len(l)
	for i := range 8 {
		l = append(l, list(5, i)...)
	}
	return l[:n:cap(l)]
}

// What lies in spare room isn't of the list.
func TestSpareRoomSaysNothing(t *testing.T) {
	l := spare(list(2, 2))
	position(t, l, 5, 0)
	put(t, l, api.Demand{Point: 5, Position: 2}, list(2, 2, 5, 2))
	opposed(t, l, list(5, 9), false)
	opposed(t, list(5, 9), l, false)
}

func TestWhatIsHandedInStaysAsItWas(t *testing.T) {
	p := build(t, station)
	p.Sections = slices.Grow(slices.Clone(p.Sections), 4)
	sections := slices.Clone(p.Sections[:cap(p.Sections)])
	steps := []api.Step{{Section: 3, To: 2}, {Section: 2, To: 1}, {Section: 3, To: 1}, {Section: 2, To: 2}}
	kept := slices.Clone(steps)
	demand.Of(p, steps[:3])
	if !slices.Equal(p.Sections[:cap(p.Sections)], sections) || !slices.Equal(steps, kept) {
		t.Error("a plan, or steps, or their spare room, were changed")
	}
	for _, x := range list(0, 1, 2, 1, 3, 2, 4, 1, 7, 2, 8, 1, 9, 2) {
		l := spare(list(2, 2, 4, 1, 8, 0))
		all := slices.Clone(l[:cap(l)])
		got := demand.Put(l, x)
		demand.Position(l, x.Point)
		demand.Opposed(l, got)
		demand.Opposed(got, l)
		if !slices.Equal(l[:cap(l)], all) {
			t.Errorf("a list, or its spare room, was changed by %v", x)
		}
	}
}

// Whoever changes an answer changes neither what was handed in nor another answer.
func TestAnswersStandAlone(t *testing.T) {
	p := build(t, station)
	steps := []api.Step{{Section: 3, To: 2}, {Section: 2, To: 1}}
	for _, x := range list(0, 1, 2, 1, 3, 2, 4, 1, 7, 2, 8, 1, 9, 2) {
		l := spare(list(2, 2, 4, 1, 8, 0))
		all := slices.Clone(l[:cap(l)])
		a, b := demand.Put(l, x), demand.Put(l, x)
		want := slices.Clone(b)
		clear(a[:cap(a)])
		if !slices.Equal(l[:cap(l)], all) || !slices.Equal(b, want) {
			t.Errorf("an answer for %v shares its memory", x)
		}
		put(t, l, x, want)
	}
	a := demand.Of(p, steps)
	clear(a[:cap(a)])
	of(t, p, steps, list(2, 1, 3, 2))
}

func TestCallsHangOnTheirArgumentsAlone(t *testing.T) {
	p, q := build(t, station), build(t, "point P 1\nbuffer P.t\nbuffer P.n\nbuffer P.r\n")
	l := spare(list(2, 2, 5, 1))
	var all sync.WaitGroup
	for range 8 {
		all.Go(func() {
			for range 100 {
				put(t, l, api.Demand{Point: 3, Position: 1}, list(2, 2, 3, 1, 5, 1))
				put(t, l, api.Demand{Point: 7, Position: 2}, list(2, 2, 5, 1, 7, 2))
				put(t, l, api.Demand{Point: 5, Position: 2}, l)
				position(t, l, 5, 1)
				position(t, nil, 5, 0)
				of(t, p, []api.Step{{Section: 3, To: 2}, {Section: 0, To: 1}}, list(3, 2))
				of(t, q, []api.Step{{Section: 3, To: 2}, {Section: 0, To: 1}}, list(0, 1))
				either(t, l, list(5, 2), true)
				either(t, l, list(5, 1), false)
			}
		})
	}
	all.Wait()
}
