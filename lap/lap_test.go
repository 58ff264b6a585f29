package lap_test

import (
	"math"
	"math/rand"
	"slices"
	"strings"
	"sync"
	"testing"

	"leverman/api"
	"leverman/course"
	"leverman/example"
	"leverman/lap"
	"leverman/plan"
	"leverman/sheet"
)

const (
	station = example.Station
	endless = 1 << 50 // an overlap that no sections are long enough for
)

// strange are numbers of no signal, nor of a section: some are one of a small station's in fewer bits.
var strange = []int{math.MinInt, math.MinInt + 1, -1 << 32, -256, -3, -2, -1, 24, 25, 256, 257, 1 << 31, 1 << 32, 1<<32 + 1, math.MaxInt - 1, math.MaxInt}

func build(t *testing.T, text string) api.Plan {
	t.Helper()
	l, f := sheet.Parse(text)
	p, g := plan.Build(l)
	if f != (api.Fault{}) || g != (api.Fault{}) {
		t.Fatalf("%q is no station: %+v, %+v", text, f, g)
	}
	return p
}

// yard is a station as a test lays it.
type yard struct{ example.Layout }

// plan builds a yard that asks for an overlap so long.
func (y *yard) plan(t *testing.T, overlap int) api.Plan {
	t.Helper()
	p := build(t, y.Text())
	p.Overlap = overlap
	return p
}

// begun is a yard of the sections W and V, with the signals A at W.b, and B at V.b, behind which the overlap of the one way from A begins.
func begun() *yard {
	y := &yard{}
	y.Plain("W", "V")
	y.Join("W.b", "V.a")
	y.Post("A", "W.b")
	y.Post("B", "V.b")
	return y
}

// way gives a way that layer 7 finds.
func way(t *testing.T, p api.Plan, signal, i int) api.Way {
	t.Helper()
	l, err := course.Of(p, signal)
	if err != api.OK || i >= len(l) {
		t.Fatalf("no way %d from signal %d: %d ways, error %d", i, signal, len(l), err)
	}
	return l[i]
}

// steps gives steps that are told as "P.tn T.ab": through P from t to n, through T from a to b.
func steps(t *testing.T, p api.Plan, text string) []api.Step {
	t.Helper()
	var l []api.Step
	for _, word := range strings.Fields(text) {
		name, letters, _ := strings.Cut(word, ".")
		s := plan.Find(p.Sections, name)
		if s < 0 || len(letters) != 2 {
			t.Fatalf("%q is no step", word)
		}
		all := "ab"
		if p.Sections[s].Point {
			all = "tnr"
		}
		l = append(l, api.Step{Section: s, From: strings.IndexByte(all, letters[0]), To: strings.IndexByte(all, letters[1])})
	}
	return l
}

func answers(t *testing.T, p api.Plan, signal int, w api.Way, want []api.Step) {
	t.Helper()
	if got, err := lap.Of(p, signal, w); err != api.OK || !slices.Equal(got, want) {
		t.Errorf("Of(%d, %+v) = %+v, %d, want %+v, 0, for %d", signal, w, got, err, want, p.Overlap)
	}
}

// laps holds which overlap a way has that layer 7 finds.
func laps(t *testing.T, p api.Plan, signal, i int, want string) {
	t.Helper()
	answers(t, p, signal, way(t, p, signal, i), steps(t, p, want))
}

// size holds how many steps the overlap of the first way from the first signal has, and that it is the one that told finds.
func size(t *testing.T, p api.Plan, want int) {
	t.Helper()
	w := way(t, p, 0, 0)
	got, err := lap.Of(p, 0, w)
	if err != api.OK || len(got) != want || !slices.Equal(got, told(p, 0, w).lap) {
		t.Errorf("Of = %+v, %d, want %d steps, %+v, for %d", got, err, want, told(p, 0, w), p.Overlap)
	}
}

func fails(t *testing.T, p api.Plan, signal int, w api.Way, want api.Errno) {
	t.Helper()
	if got, err := lap.Of(p, signal, w); err != want || len(got) != 0 {
		t.Errorf("Of(%d, %+v) = %+v, %d, want none, %d", signal, w, got, err, want)
	}
}

// found is what told finds: the overlap, or the error, and how many sections were entered.
type found struct {
	lap     []api.Step
	err     api.Errno
	entered int
}

// told finds an overlap by going from the way's exit on again and again, each time with other legs at the toes that it comes to, as one counts upwards.
func told(p api.Plan, signal int, w api.Way) found {
	var f found
	if w.Exit < 0 || p.Overlap == 0 {
		return f
	}
	var legs []int
	for {
		r := ride(p, signal, w, legs)
		for _, toes := range r.entries {
			if toes >= len(legs) {
				f.entered++ // the ones ahead were entered by earlier rides
			}
		}
		if f.entered > 400 {
			f.err = api.ErrLong
			return f
		}
		if r.whole {
			f.lap = r.lap
			return f
		}
		legs = r.legs
		for len(legs) > 0 && legs[len(legs)-1] == 2 {
			legs = legs[:len(legs)-1]
		}
		if len(legs) == 0 {
			return f
		}
		legs = append(slices.Clone(legs[:len(legs)-1]), 2)
	}
}

// trip is how one goes from an exit on: at which legs of the toes met, and at each entering how many toes that were.
type trip struct {
	lap     []api.Step
	legs    []int
	entries []int
	whole   bool
}

// ride goes from a way's exit on, over these legs first, then over normal ones.
func ride(p api.Plan, signal int, w api.Way, legs []int) trip {
	e := p.Sections[p.Signals[w.Exit].Section].Ends[p.Signals[w.Exit].End]
	seen := map[int]bool{p.Signals[signal].Section: true}
	for _, x := range w.Steps {
		seen[x.Section] = true
	}
	r := trip{legs: slices.Clone(legs)}
	toes, left := 0, p.Overlap
	for {
		r.entries = append(r.entries, toes)
		if seen[e.To] || len(r.lap) == 16 {
			return r
		}
		seen[e.To] = true
		x := api.Step{Section: e.To, From: e.At}
		switch s := p.Sections[e.To]; {
		case !s.Point:
			x.To = 1 - e.At
		case e.At == 0:
			if toes == len(r.legs) {
				r.legs = append(r.legs, 1)
			}
			x.To = r.legs[toes]
			toes++
		}
		r.lap = append(r.lap, x)
		left -= p.Sections[x.Section].Length
		e = p.Sections[x.Section].Ends[x.To]
		if e.To < 0 || left <= 0 {
			r.whole = true
			return r
		}
	}
}

// P8.1: overlaps.

func TestOverlapsInTheStation(t *testing.T) {
	p := build(t, station)
	laps(t, p, 0, 0, "Q.nt")
	laps(t, p, 0, 1, "Q.rt")
	laps(t, p, 1, 0, "")
	laps(t, p, 2, 0, "")
	laps(t, p, 3, 0, "P.nt")
	laps(t, p, 3, 1, "P.rt")
	laps(t, p, 4, 0, "")
	laps(t, p, 5, 0, "")
	laps(t, p, 6, 0, "P.tn")
	laps(t, p, 7, 0, "Q.tn")
}

// The overlap ends with the section with which it is as long as it is asked for, and no earlier one.
func TestJustAsLongAsAskedFor(t *testing.T) {
	p := build(t, station)
	for _, x := range []struct {
		overlap      int
		fromA, fromI string
	}{
		{1, "Q.rt", "P.tn"},
		{4999, "Q.rt", "P.tn"},
		{5000, "Q.rt", "P.tn"},
		{5001, "Q.rt E.ab", "P.tn T.ab"},
		{11999, "Q.rt E.ab", "P.tn T.ab"},
		{12000, "Q.rt E.ab", "P.tn T.ab"},
		{12001, "Q.rt E.ab", "P.tn T.ab Q.nt"},
		{14000, "Q.rt E.ab", "P.tn T.ab Q.nt"},
		{14001, "Q.rt E.ab F.ab", "P.tn T.ab Q.nt"},
		{17001, "Q.rt E.ab F.ab", "P.tn T.ab Q.nt E.ab"},
		{26000, "Q.rt E.ab F.ab", "P.tn T.ab Q.nt E.ab"},
		{26001, "Q.rt E.ab F.ab", "P.tn T.ab Q.nt E.ab F.ab"},
		// longer than all there is, up to where the track is stopped
		{34001, "Q.rt E.ab F.ab", "P.tn T.ab Q.nt E.ab F.ab"},
		{1 << 31, "Q.rt E.ab F.ab", "P.tn T.ab Q.nt E.ab F.ab"},
		{1<<32 + 1, "Q.rt E.ab F.ab", "P.tn T.ab Q.nt E.ab F.ab"},
		{endless, "Q.rt E.ab F.ab", "P.tn T.ab Q.nt E.ab F.ab"},
	} {
		p.Overlap = x.overlap
		laps(t, p, 0, 1, x.fromA)
		laps(t, p, 6, 0, x.fromI)
	}
}

// Lengths are numbers of more than 32 bits.
func TestLongSections(t *testing.T) {
	y := begun()
	y.Plain("X", "Y", "Z")
	y.Join("V.b", "X.b")
	y.Join("X.a", "Y.a")
	y.Join("Y.b", "Z.a")
	p := y.plan(t, 0)
	for i := range p.Sections {
		p.Sections[i].Length = api.MaxLength
	}
	for n, want := range []string{"X.ba", "X.ba Y.ab", "X.ba Y.ab Z.ab"} {
		for _, less := range []int{0, 1, 1 << 32, api.MaxLength - 1} {
			p.Overlap = (n+1)*api.MaxLength - less
			laps(t, p, 0, 0, want)
		}
	}
}

// A way to a buffer stop has no overlap, nor has one where none is asked for.
func TestWhereNoneIsAskedFor(t *testing.T) {
	p := build(t, station)
	for _, overlap := range []int{0, 1, 3000, endless} {
		p.Overlap = overlap
		for _, signal := range []int{1, 2, 4, 5} {
			laps(t, p, signal, 0, "")
		}
	}
	p.Overlap = 0
	for _, signal := range []int{0, 3, 6, 7} {
		laps(t, p, signal, 0, "")
	}
	y := begun()
	y.Row("V.b", 2)
	size(t, y.plan(t, 0), 0)
	size(t, y.plan(t, 1), 1)
}

// Where the track is stopped an overlap ends, be it at a point's leg, or at its toe.
func TestStoppedEnds(t *testing.T) {
	y := begun()
	y.Point("P", "Q")
	y.Join("V.b", "P.n")
	y.Join("P.t", "Q.t")
	laps(t, y.plan(t, 5), 0, 0, "P.nt")
	laps(t, y.plan(t, 6), 0, 0, "P.nt Q.tn")
	laps(t, y.plan(t, endless), 0, 0, "P.nt Q.tn")
	y = begun()
	y.Point("P")
	y.Join("V.b", "P.r")
	laps(t, y.plan(t, 5), 0, 0, "P.rt")
	laps(t, y.plan(t, 6), 0, 0, "P.rt")
}

// Signals end no overlap, for whomever they stand.
func TestPastSignals(t *testing.T) {
	y := begun()
	y.Plain("X", "Y", "Z")
	y.Join("V.b", "X.a")
	y.Join("X.b", "Y.a")
	y.Join("Y.b", "Z.a")
	y.Post("C", "X.a")
	y.Post("D", "X.b")
	y.Post("E", "Y.a")
	y.Post("F", "Y.b")
	y.Post("G", "Z.a")
	laps(t, y.plan(t, 5), 0, 0, "X.ab")
	laps(t, y.plan(t, 10), 0, 0, "X.ab Y.ab")
	laps(t, y.plan(t, 11), 0, 0, "X.ab Y.ab Z.ab")
	// nor any other one's
	laps(t, y.plan(t, 10), 1, 0, "Y.ab Z.ab")
}

// P8.1: the first one.

// Over the normal leg, however long that is.
func TestTheNormalLegFirst(t *testing.T) {
	y := begun()
	y.Point("P")
	y.Plain("X", "Y", "Z")
	y.Join("V.b", "P.t")
	y.Join("P.n", "X.a")
	y.Join("X.b", "Y.a")
	y.Join("P.r", "Z.a")
	p := y.plan(t, 15)
	laps(t, p, 0, 0, "P.tn X.ab Y.ab")
	p.Sections[plan.Find(p.Sections, "Z")].Length = 10
	laps(t, p, 0, 0, "P.tn X.ab Y.ab")
}

// Over the last toe's reverse leg ahead of an earlier one's.
func TestTheLastToeFirst(t *testing.T) {
	lay := func() *yard {
		y := begun()
		y.Point("P", "Q", "R")
		y.Join("V.b", "P.t")
		y.Join("P.n", "Q.t")
		y.Join("P.r", "R.t")
		return y
	}
	y := lay()
	laps(t, y.plan(t, endless), 0, 0, "P.tn Q.tn")
	y.Ring("Q.n")
	laps(t, y.plan(t, endless), 0, 0, "P.tn Q.tr")
	y.Ring("Q.r")
	laps(t, y.plan(t, endless), 0, 0, "P.tr R.tn")
	y.Ring("R.n")
	laps(t, y.plan(t, endless), 0, 0, "P.tr R.tr")
	y.Ring("R.r")
	laps(t, y.plan(t, endless), 0, 0, "")
	// as long as it need be ahead of what is turned back
	laps(t, y.plan(t, 15), 0, 0, "P.tn Q.tn f13.tn")
	laps(t, y.plan(t, 10), 0, 0, "P.tn Q.tn")
	laps(t, y.plan(t, 5), 0, 0, "P.tn")
}

// A section from which it is turned back, and that is no part of the overlap, may be in it by another leg, also by other ends.
func TestSectionsOfOtherLegs(t *testing.T) {
	y := begun()
	y.Point("P", "Q")
	y.Plain("Z")
	y.Join("V.b", "P.t")
	y.Join("P.n", "Q.n")
	y.Join("P.r", "Q.t")
	y.Join("Q.r", "Z.a")
	y.Join("Z.b", "W.a")
	// P.n to Q leads back to P by its reverse leg, P.r to Q by its toe back by its normal one
	laps(t, y.plan(t, 10), 0, 0, "P.tn Q.nt")
	laps(t, y.plan(t, 11), 0, 0, "P.tr Q.tr Z.ab")
	laps(t, y.plan(t, 16), 0, 0, "")
}

// P8.1: sections that may not be in it.

func TestTheSignalsOwnSection(t *testing.T) {
	y := begun()
	y.Join("V.b", "W.a")
	laps(t, y.plan(t, 1), 0, 0, "")
	laps(t, y.plan(t, endless), 0, 0, "")
	y = begun()
	y.Point("P")
	y.Join("V.b", "P.t")
	y.Join("P.n", "W.a")
	laps(t, y.plan(t, 5), 0, 0, "P.tn")
	laps(t, y.plan(t, 6), 0, 0, "P.tr")
	y = begun()
	y.Point("P")
	y.Join("V.b", "P.r")
	y.Join("P.t", "W.a")
	laps(t, y.plan(t, 5), 0, 0, "P.rt")
	laps(t, y.plan(t, 6), 0, 0, "")
}

// The section of a signal of which it isn't the way may be in it.
func TestAnotherSignalsSection(t *testing.T) {
	y := begun()
	y.Plain("Z")
	y.Join("V.b", "Z.a")
	y.Join("Z.b", "W.a")
	y.Post("C", "Z.b")
	laps(t, y.plan(t, 5), 0, 0, "Z.ab")
	laps(t, y.plan(t, 6), 0, 0, "")
	laps(t, y.plan(t, 5), 1, 0, "W.ab")
	laps(t, y.plan(t, 6), 1, 0, "")
	laps(t, y.plan(t, 5), 2, 0, "V.ab")
	laps(t, y.plan(t, 6), 2, 0, "")
}

// Sections of the way are no part of its overlap, be it the first one, one between, or the last one.
func TestSectionsOfTheWay(t *testing.T) {
	for _, into := range []string{"K.r", "L.r", "M.r"} {
		y := &yard{}
		y.Plain("W", "Z")
		y.Point("K", "L", "M", "P")
		y.Join("W.b", "K.n")
		y.Join("K.t", "L.n")
		y.Join("L.t", "M.n")
		y.Join("M.t", "P.t")
		y.Join("P.n", into)
		y.Join("P.r", "Z.a")
		y.Post("A", "W.b")
		y.Post("B", "M.t")
		laps(t, y.plan(t, 5), 0, 0, "P.tn")
		laps(t, y.plan(t, 6), 0, 0, "P.tr Z.ab")
		y.Join("Z.b", "W.a")
		laps(t, y.plan(t, 10), 0, 0, "P.tr Z.ab")
		laps(t, y.plan(t, 11), 0, 0, "")
	}
	// straight back into the section that is left, by its other leg
	y := &yard{}
	y.Plain("W")
	y.Point("P")
	y.Join("W.b", "P.t")
	y.Join("P.n", "P.r")
	y.Post("A", "W.b")
	y.Post("B", "P.n")
	laps(t, y.plan(t, 1), 0, 0, "")
}

func TestSectionsThatAreInIt(t *testing.T) {
	y := begun()
	y.Point("P")
	y.Plain("X", "Y")
	y.Join("V.b", "P.t")
	y.Join("P.n", "X.a")
	y.Join("X.b", "Y.a")
	y.Join("Y.b", "P.r")
	laps(t, y.plan(t, 15), 0, 0, "P.tn X.ab Y.ab")
	laps(t, y.plan(t, 16), 0, 0, "")
	y = begun()
	y.Ring("V.b")
	laps(t, y.plan(t, 5), 0, 0, "f4.tn")
	laps(t, y.plan(t, 6), 0, 0, "")
}

// P8.1: as many sections as there may be.

func TestRowsOfSections(t *testing.T) {
	for n := 1; n <= api.MaxSections-2; n++ {
		y := begun()
		y.Row("V.b", n)
		p := y.plan(t, 0)
		for k := 1; k <= n+1; k++ {
			want := min(k, n)
			if want > api.MaxSteps {
				want = 0
			}
			for _, p.Overlap = range []int{5*k - 4, 5 * k} {
				size(t, p, want)
			}
		}
	}
}

// The limit is one of the overlap: the way's sections don't count.
func TestRowsBehindLongWays(t *testing.T) {
	for n := 1; n <= api.MaxSteps; n++ {
		y := &yard{}
		y.Plain("W")
		last := y.Row("W.b", n)
		y.Post("A", "W.b")
		y.Post("B", last)
		rest := api.MaxSections - 1 - n
		y.Row(last, rest)
		if rest > api.MaxSteps {
			size(t, y.plan(t, 80), 16)
			size(t, y.plan(t, 81), 0)
		} else {
			size(t, y.plan(t, endless), rest)
		}
	}
}

// Where one leg goes on too long, another one may do, also the one of the last point that there may be.
func TestOneLegTooLong(t *testing.T) {
	for n := range 17 {
		y := begun()
		last := y.Row("V.b", n)
		y.Point("P")
		y.Join(last, "P.t")
		y.Row("P.n", 16-n)
		p := y.plan(t, 80)
		if n == 16 {
			size(t, p, 16)
			p.Overlap = 81
			size(t, p, 0)
			continue
		}
		size(t, p, 16)
		p.Overlap = 81 // 17 sections over P.n
		answers(t, p, 0, way(t, p, 0, 0), reverse(t, p, n))
	}
}

// reverse gives the steps through so many sections behind V, and then over a point's reverse leg.
func reverse(t *testing.T, p api.Plan, n int) []api.Step {
	t.Helper()
	want := steps(t, p, "V.ab")
	for range n + 1 {
		last := want[len(want)-1]
		e := p.Sections[last.Section].Ends[last.To]
		want = append(want, api.Step{Section: e.To, From: 0, To: 1})
	}
	want[n+1].To = 2
	return want[1:]
}

// Errors: ErrNone.

func TestSignalsThatThereArent(t *testing.T) {
	p := build(t, station)
	good, stop := way(t, p, 0, 0), way(t, p, 1, 0)
	for _, p.Overlap = range []int{0, 3000, endless} {
		for _, signal := range append([]int{8, 9, 10, 11, 12, 13}, strange...) {
			fails(t, p, signal, good, api.ErrNone)
			fails(t, p, signal, stop, api.ErrNone)
		}
	}
	for _, q := range []api.Plan{{}, {Overlap: 1}, build(t, "overlap 7\nsection W 1\nbuffer W.a\nbuffer W.b\n")} {
		for _, signal := range append([]int{0, 1, 2}, strange...) {
			fails(t, q, signal, good, api.ErrNone)
			fails(t, q, signal, stop, api.ErrNone)
		}
	}
}

// A way of another station may end at a signal that isn't there.
func TestExitsThatThereArent(t *testing.T) {
	p := build(t, station)
	w := way(t, p, 0, 0)
	for _, p.Overlap = range []int{0, 3000, endless} {
		for _, w.Exit = range []int{8, 9, 12, 256, 257, 1 << 32, 1<<32 + 1, math.MaxInt} {
			fails(t, p, 0, w, api.ErrNone)
			fails(t, p, 8, w, api.ErrNone)
		}
	}
	y := begun()
	y.Row("V.b", 1)
	q := y.plan(t, 1)
	fails(t, q, 0, way(t, p, 0, 1), api.ErrNone)
	if l, err := lap.Of(q, 0, way(t, p, 1, 0)); err != api.OK || len(l) != 0 {
		t.Errorf("a way to a buffer stop: %+v, %d", l, err)
	}
}

// Signals behind the last one lie in spare room: they aren't the station's.
func TestSignalsInSpareRoom(t *testing.T) {
	p := build(t, station)
	w := way(t, p, 0, 0)
	p.Signals = append(slices.Clone(p.Signals), p.Signals[0], p.Signals[1])[:8]
	fails(t, p, 8, w, api.ErrNone)
	w.Exit = 9
	fails(t, p, 0, w, api.ErrNone)
}

// Errors: ErrLong.

// tries holds how many sections are entered by told's count, so that the stations are what they are laid for, and what comes of it.
func tries(t *testing.T, y *yard, overlap, entered, want int) {
	t.Helper()
	p := y.plan(t, overlap)
	w := way(t, p, 0, 0)
	if got := told(p, 0, w).entered; got != entered {
		t.Errorf("told enters %d sections, want %d", got, entered)
	}
	if entered > 400 {
		fails(t, p, 0, w, api.ErrLong)
	} else {
		size(t, p, want)
	}
}

var legs = [][2]string{{"F.n", "F.r"}, {"F.r", "F.n"}}

// dead lays, behind so many plain sections, a point with 381 enterings behind one leg and 18 behind the other one, that are all turned back at last: in a ring, or from the signal's own section.
func dead(ahead int, small, great string) *yard {
	y := begun()
	last := y.Row("V.b", ahead)
	y.Point("F")
	y.Join(last, "F.t")
	y.Join(y.Row(y.Diamonds(y.Row(small, 1), 2), 1), "W.a")
	y.Ring(y.Diamonds(great, 6))
	return y
}

func TestAsManyTriesAsThereMayBe(t *testing.T) {
	for _, x := range legs {
		tries(t, dead(0, x[0], x[1]), endless, 400, 0)
		tries(t, dead(1, x[0], x[1]), endless, 401, 0)
	}
}

// deep lays a point with so many plain sections behind one leg, up to the signal's own, and behind the other one 16 sections on each of 64 ways, each time with one more to be entered.
func deep(small int, short, long string) *yard {
	y := begun()
	y.Point("F")
	y.Join("V.b", "F.t")
	y.Join(y.Row(short, small), "W.a")
	y.Row(y.Diamonds(y.Row(y.Diamonds(long, 4), 1), 2), 3)
	return y
}

// One section more than there may be is entered, too, ahead of turning back.
func TestTriesBehindTheLastSection(t *testing.T) {
	for _, x := range legs {
		tries(t, deep(1, x[0], x[1]), endless, 400, 0)
		tries(t, deep(2, x[0], x[1]), endless, 401, 0)
	}
}

// late lays, behind so many plain sections, a point with 397 enterings behind one leg, which are all turned back, and so many plain sections behind the other one, up to where it is stopped.
func late(ahead, row int, dead, good string) *yard {
	y := begun()
	last := y.Row("V.b", ahead)
	y.Point("F")
	y.Join(last, "F.t")
	y.Ring(y.Diamonds(y.Row(y.Diamonds(dead, 4), 1), 2))
	y.Row(good, row)
	return y
}

// What is found with the last try that there may be is found; the search ends with it.
func TestFoundWithTheLastTry(t *testing.T) {
	tries(t, late(0, 1, "F.n", "F.r"), endless, 399, 2)
	tries(t, late(0, 2, "F.n", "F.r"), endless, 400, 3)
	tries(t, late(0, 3, "F.n", "F.r"), endless, 401, 0)
	tries(t, late(1, 1, "F.n", "F.r"), endless, 400, 3)
	tries(t, late(1, 2, "F.n", "F.r"), endless, 401, 0)
	// the normal leg's is found ahead of all that is turned back
	tries(t, late(0, 3, "F.r", "F.n"), endless, 4, 4)
	tries(t, late(1, 3, "F.r", "F.n"), endless, 5, 5)
}

// Found by its length, with more sections behind it.
func TestFoundByLengthWithTheLastTry(t *testing.T) {
	y := late(0, 4, "F.n", "F.r")
	p := y.plan(t, 1000)
	leg := p.Sections[plan.Find(p.Sections, "F")].Ends[2].To
	second := p.Sections[leg].Ends[1].To
	p.Sections[second].Length = 1000
	size(t, p, 3) // 400 enterings
	p.Sections[second].Length, p.Sections[p.Sections[second].Ends[1].To].Length = 5, 1000
	fails(t, p, 0, way(t, p, 0, 0), api.ErrLong)
	p.Overlap = 10
	size(t, p, 2)
}

// Each search counts from the beginning.
func TestTriesOfManySearches(t *testing.T) {
	y := dead(0, "F.n", "F.r")
	for range 3 {
		tries(t, y, endless, 400, 0)
		tries(t, y, 5, 1, 1)
	}
}

// P8.1: Length.

func TestLength(t *testing.T) {
	p := build(t, station)
	for _, x := range []struct {
		steps string
		want  int
	}{
		{"", 0},
		{"P.tn", 5000},
		{"P.tr", 5000},
		{"W.ba", 9000},
		{"P.rt W.ba V.ba", 22000},
		{"E.ab F.ab P.tn Q.nt T.ab U.ab V.ab W.ab", 58000},
		// each step counts
		{"P.tn P.nt P.tn", 15000},
	} {
		if got := lap.Length(p, steps(t, p, x.steps)); got != x.want {
			t.Errorf("Length(%s) = %d, want %d", x.steps, got, x.want)
		}
	}
	p.Sections[0].Length, p.Sections[1].Length = api.MaxLength, api.MaxLength
	if got := lap.Length(p, []api.Step{{Section: 1}, {Section: 0}, {Section: 2}, {Section: 0}}); got != 3*api.MaxLength+5000 {
		t.Errorf("Length = %d", got)
	}
}

func TestLengthOfSectionsThatThereArent(t *testing.T) {
	p := build(t, station)
	p.Sections = append(slices.Clone(p.Sections), p.Sections[0])[:8]
	all := []api.Step{{Section: 2, From: math.MinInt, To: math.MaxInt}} // ends say nothing
	for _, s := range append([]int{8, 9, 10}, strange...) {
		x := api.Step{Section: s, To: 1}
		if got := lap.Length(p, []api.Step{x}); got != 0 {
			t.Errorf("Length of section %d = %d", s, got)
		}
		all = append(all, x, api.Step{Section: 7})
	}
	if got, want := lap.Length(p, all), 5000+9000*(3+len(strange)); got != want {
		t.Errorf("Length = %d, want %d", got, want)
	}
	if got := lap.Length(api.Plan{}, []api.Step{{}, {Section: -1}}); got != 0 {
		t.Errorf("Length in a station of nothing = %d", got)
	}
}

// P8.1, P8.2: stations that are drawn.

// tally counts what stations were drawn, so that a test isn't held by empty answers alone.
type tally struct{ none, one, some, long int }

func (c *tally) add(f found) {
	switch {
	case f.err != api.OK:
		c.long++
	case len(f.lap) == 0:
		c.none++
	case len(f.lap) == 1:
		c.one++
	default:
		c.some++
	}
}

// holds holds the overlaps of each signal's ways, for lengths that fall, against told's, and each for itself.
func holds(t *testing.T, p api.Plan, lengths []int, c *tally) {
	t.Helper()
	for signal := range p.Signals {
		ways, _ := course.Of(p, signal)
		for _, w := range ways {
			one := false // whether there was one with the greater lengths
			for _, p.Overlap = range lengths {
				want := told(p, signal, w)
				if w.Exit >= 0 {
					c.add(want)
				}
				got, err := lap.Of(p, signal, w)
				if err != want.err || !slices.Equal(got, want.lap) {
					t.Errorf("Of(%d, %+v) = %+v, %d, want %+v, of %+v", signal, w, got, err, want, p)
				}
				if one && len(got) == 0 {
					t.Errorf("Of(%d, %+v): none, though there is one with a greater length, of %+v", signal, w, p)
				}
				if one = len(got) > 0; one {
					each(t, p, signal, w, got)
				}
			}
		}
	}
}

// each holds that an overlap is one, just so long.
func each(t *testing.T, p api.Plan, signal int, w api.Way, l []api.Step) {
	t.Helper()
	if w.Exit < 0 || len(l) > api.MaxSteps {
		t.Fatalf("an overlap of %d steps behind %d", len(l), w.Exit)
	}
	e := p.Sections[p.Signals[w.Exit].Section].Ends[p.Signals[w.Exit].End]
	seen := []int{p.Signals[signal].Section}
	for _, x := range w.Steps {
		seen = append(seen, x.Section)
	}
	long := 0
	for i, x := range l {
		s := p.Sections[x.Section]
		good := e.To == x.Section && e.At == x.From && x.From != x.To && !slices.Contains(seen, x.Section) && long < p.Overlap
		if s.Point {
			good = good && (x.From == 0) != (x.To == 0)
		}
		long += s.Length
		e = s.Ends[x.To]
		if ended := e.To < 0 || long >= p.Overlap; !good || ended != (i == len(l)-1) {
			t.Errorf("step %d of %+v behind %+v from signal %d, of %+v", i, l, w, signal, p)
		}
		seen = append(seen, x.Section)
	}
	if lap.Length(p, l) != long {
		t.Errorf("Length of %+v = %d, want %d", l, lap.Length(p, l), long)
	}
}

// measured draws the lengths of a station's sections, and gives lengths that fall, to be asked for: those that sections can make, and one less, or more, among them.
func measured(r *rand.Rand, p api.Plan) []int {
	all := 0
	for i := range p.Sections {
		p.Sections[i].Length = 1 + r.Intn(4)
		all += p.Sections[i].Length
	}
	return []int{endless, all, 1 + all/2 + r.Intn(all), 1 + r.Intn(all), 1 + r.Intn(8), 1}
}

func TestDrawnSmallStations(t *testing.T) {
	r := rand.New(rand.NewSource(9))
	var c tally
	for range 12000 {
		points, plains := r.Intn(5), 1+r.Intn(5)
		ends := 3*points + 2*plains
		p := build(t, example.Drawn(r.Intn, points, plains, ends/2-r.Intn(3), 1+r.Intn(5)))
		l := measured(r, p)
		slices.SortFunc(l, func(a, b int) int { return b - a })
		holds(t, p, l, &c)
		if t.Failed() {
			return
		}
	}
	if c.none < 500 || c.one < 500 || c.some < 500 {
		t.Errorf("too few of a kind: %+v", c)
	}
}

func TestDrawnGreatStations(t *testing.T) {
	r := rand.New(rand.NewSource(10))
	var c tally
	for range 3000 {
		sections := 12 + r.Intn(13)
		points := r.Intn(sections + 1)
		ends := 2*sections + points
		p := build(t, example.Drawn(r.Intn, points, sections-points, ends/2-r.Intn(3), 2+r.Intn(11)))
		l := measured(r, p)
		slices.SortFunc(l, func(a, b int) int { return b - a })
		holds(t, p, l, &c)
		if t.Failed() {
			return
		}
	}
	if c.none < 500 || c.one < 500 || c.some < 500 {
		t.Errorf("too few of a kind: %+v", c)
	}
}

// grow lays up to so many sections behind an end, most of them with legs that meet again, so that there is much to be entered.
func (y *yard) grow(r *rand.Rand, from string, most int) {
	for most > 2 && r.Intn(16) > 0 {
		switch n := r.Intn(15); {
		case n < 9:
			from = y.Diamonds(from, 1)
			most -= 2
		case n < 13:
			from = y.Row(from, 1)
			most--
		default:
			normal, reverse := y.Fork(from)
			cut := r.Intn(most)
			y.grow(r, normal, cut)
			y.grow(r, reverse, most-1-cut)
			return
		}
	}
	if most > 0 && r.Intn(16) > 0 {
		y.Ring(from)
	}
}

func TestGrownStations(t *testing.T) {
	r := rand.New(rand.NewSource(11))
	var c tally
	for range 3000 {
		y := begun()
		y.grow(r, y.Diamonds("V.b", 1), 20)
		p := build(t, y.Text())
		holds(t, p, []int{endless, 80, 70, 60, 30}, &c)
		if t.Failed() {
			return
		}
	}
	if c.none < 500 || c.some < 500 || c.long < 500 {
		t.Errorf("too few of a kind: %+v", c)
	}
}

// What is handed in isn't changed, answers are new, nothing is kept, and many may call at once.

// Other numbers of a plan say nothing of its overlaps.
func TestOtherNumbersSayNothing(t *testing.T) {
	p := build(t, station)
	p.Approach, p.Settle, p.Hold = endless, endless, endless
	laps(t, p, 0, 0, "Q.nt")
	p.Approach, p.Settle, p.Hold = 0, 0, 0
	laps(t, p, 0, 0, "Q.nt")
}

// spare gives steps with room behind them, that is filled.
func spare(l []api.Step) []api.Step {
	n := len(l)
	for range 20 {
		l = append(l, api.Step{Section: -7, From: -7, To: -7})
	}
	return l[:n:cap(l)]
}

func TestWhatIsHandedInStaysAsItWas(t *testing.T) {
	y := late(1, 1, "F.n", "F.r")
	for _, p := range []api.Plan{build(t, station), y.plan(t, endless)} {
		p.Sections = slices.Grow(slices.Clone(p.Sections), 4)
		p.Signals = slices.Grow(slices.Clone(p.Signals), 4)
		sections, signals := slices.Clone(p.Sections[:cap(p.Sections)]), slices.Clone(p.Signals[:cap(p.Signals)])
		w := way(t, p, 0, 0)
		w.Steps = spare(slices.Clone(w.Steps))
		all := slices.Clone(w.Steps[:cap(w.Steps)])
		l, _ := lap.Of(p, 0, w)
		lap.Length(p, w.Steps)
		for i := range l[:cap(l)] {
			l[:cap(l)][i].Section = -9
		}
		if !slices.Equal(w.Steps[:cap(w.Steps)], all) {
			t.Error("a way, or its spare room, was changed")
		}
		if !slices.Equal(p.Sections[:cap(p.Sections)], sections) || !slices.Equal(p.Signals[:cap(p.Signals)], signals) {
			t.Error("a plan, or its spare room, was changed")
		}
	}
}

func TestAnswersStandAlone(t *testing.T) {
	p := build(t, station)
	p.Overlap = 14000
	w := way(t, p, 6, 0)
	a, _ := lap.Of(p, 6, w)
	b, _ := lap.Of(p, 6, w)
	clear(a[:cap(a)])
	if !slices.Equal(b, steps(t, p, "P.tn T.ab Q.nt")) {
		t.Error("two answers share their steps")
	}
	laps(t, p, 6, 0, "P.tn T.ab Q.nt")
}

func TestCallsHangOnTheirArgumentsAlone(t *testing.T) {
	p, q := build(t, station), build(t, station)
	q.Overlap = 6000
	long := dead(1, "F.n", "F.r").plan(t, endless)
	v, w, x, stop := way(t, p, 0, 0), way(t, q, 0, 1), way(t, long, 0, 0), way(t, p, 1, 0)
	short, more := steps(t, p, "Q.nt"), steps(t, q, "Q.rt E.ab")
	var all sync.WaitGroup
	for range 8 {
		all.Go(func() {
			for range 50 {
				answers(t, p, 0, v, short)
				fails(t, long, 0, x, api.ErrLong)
				answers(t, q, 0, w, more)
				fails(t, p, 8, v, api.ErrNone)
				answers(t, p, 1, stop, nil)
			}
		})
	}
	all.Wait()
}
