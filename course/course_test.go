package course_test

import (
	"math"
	"math/rand"
	"slices"
	"strings"
	"sync"
	"testing"

	"leverman/api"
	"leverman/course"
	"leverman/example"
	"leverman/plan"
	"leverman/sheet"
)

const station = example.Station

// strange are numbers of no signal: some are one of a small station's in fewer bits.
var strange = []int{math.MinInt, math.MinInt + 1, -1 << 32, -256, -3, -2, -1, 12, 13, 256, 257, 1 << 31, 1 << 32, 1<<32 + 1, math.MaxInt - 1, math.MaxInt}

func build(t *testing.T, text string) api.Plan {
	t.Helper()
	l, f := sheet.Parse(text)
	p, g := plan.Build(l)
	if f != (api.Fault{}) || g != (api.Fault{}) {
		t.Fatalf("%q is no station: %+v, %+v", text, f, g)
	}
	return p
}

func same(a, b []api.Way) bool {
	return slices.EqualFunc(a, b, func(v, w api.Way) bool { return v.Exit == w.Exit && slices.Equal(v.Steps, w.Steps) })
}

// clone gives ways that share nothing with those handed in.
func clone(l []api.Way) []api.Way {
	l = slices.Clone(l)
	for i := range l {
		l[i].Steps = slices.Clone(l[i].Steps)
	}
	return l
}

func ways(t *testing.T, p api.Plan, signal int, want ...api.Way) {
	t.Helper()
	if got, err := course.Of(p, signal); err != api.OK || !same(got, want) {
		t.Errorf("Of(%d) = %+v, %d, want %+v, 0", signal, got, err, want)
	}
}

func fails(t *testing.T, p api.Plan, signal int, want api.Errno) {
	t.Helper()
	if got, err := course.Of(p, signal); err != want || len(got) != 0 {
		t.Errorf("Of(%d) = %d ways, error %d, want none, error %d", signal, len(got), err, want)
	}
}

// count holds how many ways there are, and that they are those that told finds.
func count(t *testing.T, p api.Plan, signal, want int) {
	t.Helper()
	got, err := course.Of(p, signal)
	if err != api.OK || len(got) != want {
		t.Errorf("Of(%d) = %d ways, error %d, want %d, error 0", signal, len(got), err, want)
		return
	}
	if all := told(p, signal); all.err != api.OK || !same(got, all.ways) {
		t.Errorf("Of(%d) = %+v, want %+v", signal, got, all.ways)
	}
}

// way gives a way of steps that are told as section, from, to; section, from, to; and so on.
func way(exit int, numbers ...int) api.Way {
	w := api.Way{Exit: exit}
	for x := range slices.Chunk(numbers, 3) {
		w.Steps = append(w.Steps, api.Step{Section: x[0], From: x[1], To: x[2]})
	}
	return w
}

// yard is a station as a test lays it.
type yard struct{ example.Layout }

func (y *yard) plan(t *testing.T) api.Plan {
	t.Helper()
	return build(t, y.Text())
}

// begun is a yard of the section W with the signal A at its end b.
func begun() *yard {
	y := &yard{}
	y.Plain("W")
	y.Post("A", "W.b")
	return y
}

// all is what told finds: the ways, or the error, and how many sections were entered.
type all struct {
	ways    []api.Way
	err     api.Errno
	entered int
}

// told finds the ways by going from the signal on again and again, each time with other legs at the toes that it comes to, as one counts upwards.
func told(p api.Plan, signal int) all {
	var a all
	var legs []int
	for {
		r := ride(p, signal, legs)
		for _, toes := range r.entries {
			if toes >= len(legs) {
				a.entered++ // the ones ahead were entered by earlier rides
			}
		}
		if r.long || a.entered > 400 {
			return all{err: api.ErrLong, entered: a.entered}
		}
		if r.whole {
			a.ways = append(a.ways, r.way)
		}
		legs = r.legs
		for len(legs) > 0 && legs[len(legs)-1] == 2 {
			legs = legs[:len(legs)-1]
		}
		if len(legs) == 0 {
			return a
		}
		legs = append(slices.Clone(legs[:len(legs)-1]), 2)
	}
}

// trip is how one goes from a signal on: at which legs of the toes met, and at each entering how many toes that were.
type trip struct {
	way         api.Way
	legs        []int
	entries     []int
	whole, long bool
}

// ride goes from a signal on, over these legs first, then over normal ones.
func ride(p api.Plan, signal int, legs []int) trip {
	own := p.Signals[signal].Section
	e := p.Sections[own].Ends[p.Signals[signal].End]
	seen := map[int]bool{own: true}
	r := trip{legs: slices.Clone(legs)}
	toes := 0
	for {
		r.entries = append(r.entries, toes)
		if seen[e.To] {
			return r
		}
		if len(r.way.Steps) == 16 {
			r.long = true
			return r
		}
		seen[e.To] = true
		x := api.Step{Section: e.To, From: e.At}
		switch s := p.Sections[e.To]; {
		case !s.Point:
			x.To = 1 - e.At
		case e.At == 0:
			if toes == len(r.legs) {
				r.legs = append(r.legs, 1)
			}
			x.To = r.legs[toes]
			toes++
		}
		r.way.Steps = append(r.way.Steps, x)
		e = p.Sections[x.Section].Ends[x.To]
		if e.To < 0 || e.Signal >= 0 {
			r.way.Exit, r.whole = e.Signal, true
			return r
		}
	}
}

// P7.1: the ways.

func TestWaysInTheStation(t *testing.T) {
	p := build(t, station)
	ways(t, p, 0, way(1, 2, 0, 1, 4, 0, 1), way(2, 2, 0, 2, 5, 0, 1))
	ways(t, p, 1, way(-1, 3, 1, 0, 0, 0, 1, 1, 0, 1))
	ways(t, p, 2, way(-1, 3, 2, 0, 0, 0, 1, 1, 0, 1))
	ways(t, p, 3, way(4, 3, 0, 1, 4, 1, 0), way(5, 3, 0, 2, 5, 1, 0))
	ways(t, p, 4, way(-1, 2, 1, 0, 7, 1, 0, 6, 1, 0))
	ways(t, p, 5, way(-1, 2, 2, 0, 7, 1, 0, 6, 1, 0))
	ways(t, p, 6, way(0, 7, 0, 1))
	ways(t, p, 7, way(3, 0, 1, 0))
}

func TestWaysAheadOfAToe(t *testing.T) {
	y := begun()
	y.Point("P")
	y.Plain("T", "U", "Y", "Z")
	y.Join("W.b", "P.t")
	y.Join("P.n", "U.a")
	y.Join("P.r", "T.b")
	y.Join("U.b", "Y.a")
	y.Join("T.a", "Z.a")
	y.Post("B", "T.a")
	y.Post("C", "U.b")
	// Signals for who comes from there end no way, nor does one at the end by which W is entered.
	y.Post("D", "U.a")
	y.Post("E", "P.t")
	y.Post("F", "P.r")
	p := y.plan(t)
	ways(t, p, 0, way(2, 0, 0, 1, 2, 0, 1), way(5, 0, 0, 2))
	ways(t, p, 1, way(-1, 5, 0, 1))
	ways(t, p, 2, way(-1, 4, 0, 1))
	ways(t, p, 3, way(4, 0, 1, 0))
	ways(t, p, 4, way(-1, 3, 1, 0))
	ways(t, p, 5, way(1, 1, 1, 0))
}

// A way ends at the first signal, or where it is stopped, be it a point's leg, or its toe.
func TestWhereAWayEnds(t *testing.T) {
	y := begun()
	y.Point("P", "Q")
	y.Join("W.b", "P.t")
	y.Join("P.r", "Q.n")
	p := y.plan(t) // P.n, Q.t are stopped
	ways(t, p, 0, way(-1, 0, 0, 1), way(-1, 0, 0, 2, 1, 1, 0))
	y.Plain("Z")
	y.Join("Q.t", "Z.a")
	y.Post("K", "Q.t")
	y.Post("B", "Z.a")
	p = y.plan(t)
	ways(t, p, 0, way(-1, 0, 0, 1), way(2, 0, 0, 2, 1, 1, 0))
	ways(t, p, 1, way(-1, 1, 0, 1, 0, 2, 0, 2, 1, 0), way(-1, 1, 0, 2))
	ways(t, p, 2, way(-1, 3, 0, 1))
}

// Each leg of one point goes on over both of the next one, one wholly ahead of the other one.
func TestOrderOfWays(t *testing.T) {
	y := begun()
	y.Point("P", "Q", "R")
	y.Join("W.b", "P.t")
	y.Join("P.n", "R.t")
	y.Join("P.r", "Q.t")
	ways(t, y.plan(t), 0,
		way(-1, 0, 0, 1, 2, 0, 1), way(-1, 0, 0, 1, 2, 0, 2),
		way(-1, 0, 0, 2, 1, 0, 1), way(-1, 0, 0, 2, 1, 0, 2))
	y = begun()
	p := y.Diamonds("W.b", 2)
	y.Plain("Z")
	y.Join(p, "Z.a")
	y.Post("B", p)
	ways(t, y.plan(t), 0,
		way(1, 2, 0, 1, 4, 1, 0, 3, 0, 1, 5, 1, 0), way(1, 2, 0, 1, 4, 1, 0, 3, 0, 2, 5, 2, 0),
		way(1, 2, 0, 2, 4, 2, 0, 3, 0, 1, 5, 1, 0), way(1, 2, 0, 2, 4, 2, 0, 3, 0, 2, 5, 2, 0))
}

// P7.1: sections that may not be in the way.

func TestTheSignalsOwnSection(t *testing.T) {
	ways(t, build(t, "section W 5\njoin W.a W.b\nsignal A W.b\n"), 0)
	ways(t, build(t, "section W 5\njoin W.a W.b\nsignal A W.a\nsignal B W.b\n"), 0)
	ways(t, build(t, "section W 5\njoin W.a W.b\nsignal A W.a\nsignal B W.b\n"), 1)
	ways(t, build(t, "point P 5\njoin P.n P.r\nbuffer P.t\nsignal A P.n\nsignal B P.r\n"), 0)
	ways(t, build(t, "point P 5\njoin P.n P.r\nbuffer P.t\nsignal A P.n\nsignal B P.r\n"), 1)
	// a ring of two, and of two with a leg out of it
	p := build(t, "section V 5\nsection W 5\njoin W.b V.a\njoin V.b W.a\nsignal A W.b\nsignal B W.a\n")
	ways(t, p, 0)
	ways(t, p, 1)
	p = build(t, "point P 5\nsection W 5\njoin W.b P.t\njoin P.r W.a\nbuffer P.n\nsignal A W.b\nsignal B W.a\n")
	ways(t, p, 0, way(-1, 0, 0, 1))
	ways(t, p, 1)
	// one that is entered by an end of its own that no way of its signal touches
	p = build(t, "point P 5\nsection W 5\njoin W.b P.n\njoin W.a P.t\nbuffer P.r\nsignal A P.n\nsignal B P.t\n")
	ways(t, p, 0)
	ways(t, p, 1)
}

func TestSectionsThatAreInTheWay(t *testing.T) {
	y := begun()
	y.Ring("W.b")
	ways(t, y.plan(t), 0)
	// round by either leg, to a signal that stands for one of both
	y = begun()
	y.Point("P")
	y.Plain("L")
	y.Join("W.b", "P.t")
	y.Join("P.n", "L.a")
	y.Join("P.r", "L.b")
	ways(t, y.plan(t), 0)
	y.Post("B", "L.a")
	ways(t, y.plan(t), 0, way(1, 1, 0, 2, 0, 1, 0))
	ways(t, y.plan(t), 1, way(-1, 1, 1, 0, 2, 1, 0))
	y.Post("C", "L.b")
	ways(t, y.plan(t), 0, way(2, 1, 0, 1, 0, 0, 1), way(1, 1, 0, 2, 0, 1, 0))
	ways(t, y.plan(t), 2, way(-1, 1, 2, 0, 2, 1, 0))
}

// A section that one way goes through may be in another one again, also by other ends.
func TestSectionsOfOtherWays(t *testing.T) {
	y := begun()
	y.Point("P", "Q", "R")
	y.Join("W.b", "P.t")
	y.Join("P.n", "Q.n")
	y.Join("P.r", "R.n")
	y.Join("Q.r", "R.r")
	ways(t, y.plan(t), 0, way(-1, 0, 0, 1, 1, 1, 0), way(-1, 0, 0, 2, 2, 1, 0))
	y = begun()
	y.Point("P", "Q", "R")
	y.Join("W.b", "P.t")
	y.Join("P.n", "Q.t")
	y.Join("P.r", "R.t")
	y.Join("Q.r", "R.r")
	ways(t, y.plan(t), 0,
		way(-1, 0, 0, 1, 1, 0, 1),
		way(-1, 0, 0, 2, 2, 0, 1))
}

// Errors: ErrNone.

func TestSignalsThatThereArent(t *testing.T) {
	p := build(t, station)
	for _, signal := range append([]int{8, 9, 10, 11}, strange...) {
		fails(t, p, signal, api.ErrNone)
	}
	for _, p := range []api.Plan{{}, build(t, "hold 1\n"), build(t, "section W 1\nbuffer W.a\nbuffer W.b\n")} {
		for _, signal := range append([]int{0, 1, 2}, strange...) {
			fails(t, p, signal, api.ErrNone)
		}
	}
}

// Signals behind the last one lie in spare room: they aren't the station's.
func TestSignalsInSpareRoom(t *testing.T) {
	p := build(t, station)
	more := append(slices.Clone(p.Signals), p.Signals[6], p.Signals[7])
	p.Signals = more[:8]
	fails(t, p, 8, api.ErrNone)
	fails(t, p, 9, api.ErrNone)
}

// Errors: ErrLong, of a way's sections.

func TestRowsOfSections(t *testing.T) {
	for n := 1; n < api.MaxSections; n++ {
		y := begun()
		y.Row("W.b", n)
		if n > api.MaxSteps {
			fails(t, y.plan(t), 0, api.ErrLong)
		} else {
			count(t, y.plan(t), 0, 1)
		}
	}
}

// Signals for who comes from there don't make it shorter.
func TestRowsPastSignals(t *testing.T) {
	for n := 3; n < api.MaxSections; n++ {
		y := begun()
		last := y.Row("W.b", n-1)
		y.Plain("Z")
		y.Join(last, "Z.a")
		y.Post("B", "Z.a")
		y.Post("C", strings.Replace(last, ".b", ".a", 1))
		if n > api.MaxSteps {
			fails(t, y.plan(t), 0, api.ErrLong)
		} else {
			count(t, y.plan(t), 0, 1)
		}
	}
}

// A signal ends the way, whatever comes behind it.
func TestRowsUpToASignal(t *testing.T) {
	for n := 1; n < api.MaxSections-4; n++ {
		y := begun()
		last := y.Row("W.b", n)
		y.Post("B", last)
		y.Row(last, 4)
		p := y.plan(t)
		if n > api.MaxSteps {
			fails(t, p, 0, api.ErrLong)
		} else if l, err := course.Of(p, 0); err != api.OK || len(l) != 1 || len(l[0].Steps) != n || l[0].Exit != 1 {
			t.Errorf("%d sections: %+v, %d", n, l, err)
		}
		count(t, p, 1, 1)
	}
}

// Behind the last step that there may be, one that may not be in the way is no fault: it is turned back there.
func TestRingsOfSections(t *testing.T) {
	for n := 1; n < api.MaxSections-1; n++ {
		own := begun()
		own.Join(own.Row("W.b", n), "W.a")
		round := begun()
		round.Point("P")
		round.Join("W.b", "P.t")
		round.Join(round.Row("P.n", n-1), "P.r")
		back := &yard{}
		back.Point("P")
		back.Post("A", "P.n")
		back.Join(back.Row("P.n", n), "P.r")
		for _, p := range []api.Plan{own.plan(t), round.plan(t), back.plan(t)} {
			if n > api.MaxSteps {
				fails(t, p, 0, api.ErrLong)
			} else {
				ways(t, p, 0)
			}
		}
	}
}

// A point is the last section that there may be: where its legs are stopped, and where one goes on.
func TestAPointAtTheEndOfALongWay(t *testing.T) {
	for _, leg := range []string{"", ".n", ".r"} {
		y := begun()
		last := y.Row("W.b", 15)
		y.Point("P")
		y.Join(last, "P.t")
		if leg == "" {
			count(t, y.plan(t), 0, 2)
			continue
		}
		y.Plain("Z")
		y.Join("P"+leg, "Z.a")
		fails(t, y.plan(t), 0, api.ErrLong)
		y.Post("B", "P"+leg)
		count(t, y.plan(t), 0, 2)
	}
}

// One way that is too long is the whole answer, whether others come ahead of it or behind it.
func TestOneLongWayAmongOthers(t *testing.T) {
	for _, legs := range [][2]string{{".n", ".r"}, {".r", ".n"}} {
		for _, n := range []int{15, 16} {
			y := begun()
			y.Point("P")
			y.Join("W.b", "P.t")
			y.Row("P"+legs[0], 3)
			y.Row("P"+legs[1], n)
			if n == 15 {
				count(t, y.plan(t), 0, 2)
			} else {
				fails(t, y.plan(t), 0, api.ErrLong)
			}
		}
	}
}

// Errors: ErrLong, of sections entered.

// fork lays, behind so many plain sections, a point with 381 enterings behind one leg and 18 behind the other one.
func fork(ahead int, small, great string, end func(y *yard, last string)) *yard {
	y := begun()
	last := y.Row("W.b", ahead)
	y.Point("F")
	y.Join(last, "F.t")
	y.Row(y.Diamonds(y.Row("F"+small, 1), 2), 2)
	end(y, y.Diamonds("F"+great, 6))
	return y
}

func more(y *yard, last string)   { y.Diamonds(last, 1) }
func around(y *yard, last string) { y.Ring(last) }

// exactly holds how many sections a search enters by told's count, so that the stations are what they are laid for.
func exactly(t *testing.T, p api.Plan, want int) {
	t.Helper()
	if got := told(p, 0).entered; got != want {
		t.Errorf("told enters %d sections, want %d", got, want)
	}
}

// bound holds that a fork of 400 enterings has so many ways, and that with one entering more it is too long.
func bound(t *testing.T, want int, end func(y *yard, last string)) {
	t.Helper()
	for _, legs := range [][2]string{{".n", ".r"}, {".r", ".n"}} {
		p, q := fork(0, legs[0], legs[1], end).plan(t), fork(1, legs[0], legs[1], end).plan(t)
		exactly(t, p, 400)
		count(t, p, 0, want)
		exactly(t, q, 401)
		fails(t, q, 0, api.ErrLong)
	}
}

func TestAsManyTriesAsThereMayBe(t *testing.T) { bound(t, 132, more) }

// Sections from which it turns back are entered, too: also as the last one of all.
func TestTriesThatTurnBack(t *testing.T) { bound(t, 4, around) }

// Back to the signal's own section: 381 enterings of others, and 128 of that one.
func TestTriesOfTheSignalsOwnSection(t *testing.T) {
	y := begun()
	last := y.Diamonds("W.b", 7)
	exactly(t, y.plan(t), 381)
	count(t, y.plan(t), 0, 128)
	y.Join(last, "W.a")
	fails(t, y.plan(t), 0, api.ErrLong)
	y = begun()
	y.Join(y.Diamonds("W.b", 6), "W.a")
	exactly(t, y.plan(t), 253)
	ways(t, y.plan(t), 0)
}

// No limit but that of tries holds how many ways there are: these are more than a byte counts.
func TestManyWays(t *testing.T) {
	y := begun()
	last := y.Diamonds("W.b", 6)
	y.Point("F", "G", "H")
	y.Join(last, "F.t")
	y.Join("F.n", "G.t")
	y.Join("F.r", "H.t")
	exactly(t, y.plan(t), 381)
	count(t, y.plan(t), 0, 256)
}

// Each signal's search counts from the beginning.
func TestTriesOfManySignals(t *testing.T) {
	y := begun()
	last := y.Diamonds("W.b", 7)
	y.Plain("Z")
	y.Join(last, "Z.a")
	y.Post("B", "Z.a")
	y.Post("C", last)
	y.Post("D", "p2.t")
	p := y.plan(t)
	for range 3 {
		count(t, p, 0, 128)
		count(t, p, 1, 128)
		count(t, p, 2, 1)
		count(t, p, 3, 1)
	}
}

// P7.1, P7.2: stations that are drawn.

// tally counts what stations were drawn, so that a test isn't held by empty answers alone.
type tally struct{ none, one, some, long int }

func (c *tally) add(a all) {
	switch {
	case a.err != api.OK:
		c.long++
	case len(a.ways) == 0:
		c.none++
	case len(a.ways) == 1:
		c.one++
	default:
		c.some++
	}
}

// holds holds each signal's ways against told's, and each way for itself.
func holds(t *testing.T, p api.Plan, c *tally) {
	t.Helper()
	for signal := range p.Signals {
		want := told(p, signal)
		c.add(want)
		got, err := course.Of(p, signal)
		if err != want.err || !same(got, want.ways) {
			t.Errorf("Of(%d) = %+v, %d, want %+v, %d, of %+v", signal, got, err, want.ways, want.err, p)
		}
		for i, w := range got {
			each(t, p, signal, w)
			for _, v := range got[:i] {
				parted(t, p, v.Steps, w.Steps)
			}
		}
	}
}

// each holds that a way is one.
func each(t *testing.T, p api.Plan, signal int, w api.Way) {
	t.Helper()
	if len(w.Steps) < 1 || len(w.Steps) > api.MaxSteps {
		t.Fatalf("a way of %d steps", len(w.Steps))
	}
	own := p.Signals[signal].Section
	e := p.Sections[own].Ends[p.Signals[signal].End]
	seen := []int{own}
	for i, x := range w.Steps {
		good := e.To == x.Section && e.At == x.From && x.From != x.To && !slices.Contains(seen, x.Section)
		if s := p.Sections[x.Section]; s.Point {
			good = good && (x.From == 0) != (x.To == 0)
		}
		e = p.Sections[x.Section].Ends[x.To]
		ended := e.To < 0 || e.Signal >= 0
		if !good || ended != (i == len(w.Steps)-1) {
			t.Errorf("step %d of %+v from signal %d, of %+v", i, w, signal, p)
		}
		seen = append(seen, x.Section)
	}
	if w.Exit != e.Signal {
		t.Errorf("%+v ends at signal %d, of %+v", w, e.Signal, p)
	}
}

// parted holds that a point's toe parts two ways, the normal leg's ahead.
func parted(t *testing.T, p api.Plan, v, w []api.Step) {
	t.Helper()
	i := 0
	for i < len(v) && i < len(w) && v[i] == w[i] {
		i++
	}
	if i == len(v) || i == len(w) {
		t.Errorf("%+v and %+v don't part, of %+v", v, w, p)
		return
	}
	a, b := v[i], w[i]
	if !p.Sections[a.Section].Point || a != (api.Step{Section: a.Section, To: 1}) || b != (api.Step{Section: a.Section, To: 2}) {
		t.Errorf("%+v and %+v part at step %d, of %+v", v, w, i, p)
	}
}

func TestDrawnSmallStations(t *testing.T) {
	r := rand.New(rand.NewSource(7))
	var c tally
	for range 12000 {
		points, plains := r.Intn(5), 1+r.Intn(5)
		ends := 3*points + 2*plains
		holds(t, build(t, example.Drawn(r.Intn, points, plains, ends/2-r.Intn(3), 1+r.Intn(4))), &c)
		if t.Failed() {
			return
		}
	}
	if c.none < 500 || c.one < 500 || c.some < 500 {
		t.Errorf("too few of a kind: %+v", c)
	}
}

func TestDrawnGreatStations(t *testing.T) {
	r := rand.New(rand.NewSource(8))
	var c tally
	for range 6000 {
		sections := 12 + r.Intn(13)
		points := r.Intn(sections + 1)
		ends := 2*sections + points
		holds(t, build(t, example.Drawn(r.Intn, points, sections-points, ends/2-r.Intn(4), 1+r.Intn(1+r.Intn(12)))), &c)
		if t.Failed() {
			return
		}
	}
	if c.none < 500 || c.one < 500 || c.some < 500 || c.long < 150 {
		t.Errorf("too few of a kind: %+v", c)
	}
}

// What is handed in isn't changed, answers are new, nothing is kept, and many may call at once.

// A plan's numbers say nothing of its ways.
func TestNumbersSayNothing(t *testing.T) {
	p := build(t, station)
	p.Overlap, p.Approach, p.Settle, p.Hold = 1<<50, 1<<50, 1<<50, 1<<50
	ways(t, p, 0, way(1, 2, 0, 1, 4, 0, 1), way(2, 2, 0, 2, 5, 0, 1))
}

func TestWhatIsHandedInStaysAsItWas(t *testing.T) {
	p := build(t, station)
	p.Sections = slices.Grow(slices.Clone(p.Sections), 4)
	p.Signals = slices.Grow(slices.Clone(p.Signals), 4)
	sections, signals := slices.Clone(p.Sections[:cap(p.Sections)]), slices.Clone(p.Signals[:cap(p.Signals)])
	for signal := -1; signal < 9; signal++ {
		course.Of(p, signal)
	}
	if !slices.Equal(p.Sections[:cap(p.Sections)], sections) || !slices.Equal(p.Signals[:cap(p.Signals)], signals) {
		t.Error("a plan, or its spare room, was changed")
	}
}

// spoil writes over all that an answer holds, its spare room, too.
func spoil(l []api.Step) {
	l = l[:cap(l)]
	for i := range l {
		l[i] = api.Step{Section: -7, From: -7, To: -7}
	}
}

func TestAnswersStandAlone(t *testing.T) {
	y := begun()
	y.Row(y.Diamonds(y.Row("W.b", 2), 4), 3)
	for _, p := range []api.Plan{build(t, station), y.plan(t)} {
		a, _ := course.Of(p, 0)
		b, _ := course.Of(p, 0)
		want := clone(a)
		for i := range a {
			spoil(a[i].Steps)
			if !same(a[i+1:], want[i+1:]) || !same(b, want) {
				t.Fatalf("way %d shares its steps", i)
			}
		}
		clear(a[:cap(a)])
		if !same(b, want) {
			t.Error("two answers share their ways")
		}
		ways(t, p, 0, want...)
	}
}

func TestCallsHangOnTheirArgumentsAlone(t *testing.T) {
	p, q := build(t, station), build(t, "section W 1\njoin W.a W.b\nsignal A W.b\n")
	long := fork(1, ".n", ".r", more).plan(t)
	var all sync.WaitGroup
	for range 8 {
		all.Go(func() {
			for range 50 {
				ways(t, p, 0, way(1, 2, 0, 1, 4, 0, 1), way(2, 2, 0, 2, 5, 0, 1))
				ways(t, q, 0)
				fails(t, long, 0, api.ErrLong)
				ways(t, p, 6, way(0, 7, 0, 1))
				fails(t, q, 1, api.ErrNone)
			}
		})
	}
	all.Wait()
}
