package flank_test

import (
	"math"
	"math/rand"
	"slices"
	"strconv"
	"strings"
	"sync"
	"testing"

	"leverman/api"
	"leverman/course"
	"leverman/demand"
	"leverman/example"
	"leverman/flank"
	"leverman/lap"
	"leverman/plan"
	"leverman/sheet"
	"leverman/walk"
)

const station = example.Station

func build(t *testing.T, text string) api.Plan {
	t.Helper()
	l, f := sheet.Parse(text)
	p, g := plan.Build(l)
	if f != (api.Fault{}) || g != (api.Fault{}) {
		t.Fatalf("%q is no station: %+v, %+v", text, f, g)
	}
	return p
}

// yard is a station as a test lays it.
type yard struct{ example.Layout }

// plan builds a yard that asks for an overlap so long.
func (y *yard) plan(t *testing.T, overlap int) api.Plan {
	t.Helper()
	p := build(t, y.Text())
	p.Overlap = overlap
	return p
}

// ahead lays so many new plain sections behind an end, and a signal at that end of the last one by which one comes back to it.
func (y *yard) ahead(name, from string, n int) {
	last := y.Row(from, n)
	y.Post(name, last[:len(last)-1]+"a")
}

// straight is a yard of the section W with the signal A at its end b, and of points, from the normal leg of each to the next one's toe: its first way goes over their normal legs.
func straight(names ...string) *yard {
	y := &yard{}
	y.Plain("W")
	from := "W.b"
	for _, name := range names {
		y.Point(name)
		y.Join(from, name+".t")
		from = name + ".n"
	}
	y.Post("A", "W.b")
	return y
}

// begun is a yard of the one point P, whose normal leg is stopped.
func begun() *yard { return straight("P") }

// demands gives demands that are told as "P1 Q2".
func demands(t *testing.T, p api.Plan, text string) []api.Demand {
	t.Helper()
	var l []api.Demand
	for _, word := range strings.Fields(text) {
		cut := len(word) - 1
		n, err := strconv.Atoi(word[cut:])
		s := plan.Find(p.Sections, word[:cut])
		if err != nil || s < 0 {
			t.Fatalf("%q is no demand", word)
		}
		l = append(l, api.Demand{Point: s, Position: n})
	}
	return l
}

// signals gives signals by their names.
func signals(t *testing.T, p api.Plan, text string) []int {
	t.Helper()
	var l []int
	for _, name := range strings.Fields(text) {
		i := slices.IndexFunc(p.Signals, func(x api.Signal) bool { return x.Name == name })
		if i < 0 {
			t.Fatalf("%q is no signal", name)
		}
		l = append(l, i)
	}
	return l
}

// way gives the steps of a way that layer 7 finds, and of its overlap.
func way(t *testing.T, p api.Plan, signal, i int) (steps, behind []api.Step) {
	t.Helper()
	l, err := course.Of(p, signal)
	if err != api.OK || i >= len(l) {
		t.Fatalf("no way %d from signal %d: %d ways, error %d", i, signal, len(l), err)
	}
	behind, err = lap.Of(p, signal, l[i])
	if err != api.OK {
		t.Fatalf("no overlap of way %d from signal %d: error %d", i, signal, err)
	}
	return l[i].Steps, behind
}

func answers(t *testing.T, p api.Plan, steps, behind []api.Step, points []api.Demand, flanks []int) {
	t.Helper()
	if a, b := flank.Of(p, steps, behind); !slices.Equal(a, points) || !slices.Equal(b, flanks) {
		t.Errorf("Of(%v, %v) = %v, %v, want %v, %v, of %+v", steps, behind, a, b, points, flanks, p)
	}
}

// protects holds what a way asks for, and which signals protect it.
func protects(t *testing.T, p api.Plan, signal, i int, points, flanks string) {
	t.Helper()
	steps, behind := way(t, p, signal, i)
	answers(t, p, steps, behind, demands(t, p, points), signals(t, p, flanks))
}

// first holds what protects the first way from the first signal of a yard that asks for no overlap.
func (y *yard) first(t *testing.T, points, flanks string) {
	t.Helper()
	protects(t, y.plan(t, 0), 0, 0, points, flanks)
}

// P10.1: the document's station, and the chapter's example.

func TestWaysInTheStation(t *testing.T) {
	p := build(t, station)
	protects(t, p, 0, 0, "P1 Q1", "C H")
	protects(t, p, 0, 1, "P2 Q2", "B G")
	protects(t, p, 1, 0, "Q1", "C")
	protects(t, p, 2, 0, "Q2", "B")
	protects(t, p, 3, 0, "P1 Q1", "C H")
	protects(t, p, 3, 1, "P2 Q2", "B G")
	protects(t, p, 4, 0, "P1", "H")
	protects(t, p, 5, 0, "P2", "G")
	protects(t, p, 6, 0, "P1", "H")
	protects(t, p, 7, 0, "Q1", "C")
}

// With no overlap there are fewer points, and what protects them isn't there either.
func TestTheOverlapIsProtectedToo(t *testing.T) {
	p := build(t, station)
	p.Overlap = 0
	protects(t, p, 0, 0, "P1", "H")
	protects(t, p, 6, 0, "", "")
	p.Overlap = 15000
	protects(t, p, 6, 0, "P1 Q1", "C H")
	p.Overlap = 5001
	protects(t, p, 6, 0, "P1", "H")
}

// Each of the two lists is gone through, one behind the other, whichever is empty.
func TestWayAndOverlapOneBehindTheOther(t *testing.T) {
	p := build(t, station)
	steps, behind := way(t, p, 0, 0)
	points, flanks := demands(t, p, "P1 Q1"), signals(t, p, "C H")
	answers(t, p, slices.Concat(steps, behind), nil, points, flanks)
	answers(t, p, nil, slices.Concat(steps, behind), points, flanks)
	answers(t, p, behind, steps, points, flanks)
	answers(t, p, nil, behind, demands(t, p, "Q1"), signals(t, p, "C"))
	answers(t, p, nil, nil, nil, nil)
	answers(t, p, []api.Step{}, []api.Step{}, nil, nil)
}

func TestTheChaptersExample(t *testing.T) {
	y := begun()
	y.Point("Q")
	y.Join("P.r", "Q.n")
	y.first(t, "P1 Q2", "")
}

// P10.1: from the point's other leg, however it is gone through.

func TestTheOtherLeg(t *testing.T) {
	lay := func(end, other, third string) api.Plan {
		y := &yard{}
		y.Plain("W")
		y.Point("P")
		y.Join("W.b", "P."+end)
		y.Post("A", "W.b")
		y.ahead("B", "P."+other, 1)
		if third != "" {
			y.ahead("C", "P."+third, 1)
		}
		return y.plan(t, 0)
	}
	p := lay("t", "n", "r")
	protects(t, p, 0, 0, "P1", "C")
	protects(t, p, 0, 1, "P2", "B")
	protects(t, lay("n", "r", "t"), 0, 0, "P1", "B")
	protects(t, lay("r", "n", "t"), 0, 0, "P2", "B")
	// what lies behind the leg over which the way goes protects nothing
	protects(t, lay("t", "n", ""), 0, 0, "P1", "")
	protects(t, lay("n", "t", ""), 0, 0, "P1", "")
}

// Only points have a side.
func TestPlainSectionsAreNotSearchedFrom(t *testing.T) {
	y := &yard{}
	y.Plain("W")
	y.Post("A", "W.b")
	y.Row("W.b", 3)
	y.first(t, "", "")
}

// P10.1, 1: where a search ends.

func TestStoppedEnds(t *testing.T) {
	begun().first(t, "P1", "")
	y := begun()
	y.Row("P.r", 3)
	y.first(t, "P1", "")
	y = begun()
	y.Fork("P.r")
	y.first(t, "P1", "")
}

// Where one leg behind a toe is stopped the other one is gone on from.
func TestOneLegStopped(t *testing.T) {
	y := begun()
	normal, _ := y.Fork("P.r")
	y.ahead("B", normal, 1)
	y.first(t, "P1", "B")
	y = begun()
	_, reverse := y.Fork("P.r")
	y.ahead("B", reverse, 1)
	y.first(t, "P1", "B")
}

// loop is a yard in which the way goes over P's and Q's normal legs to X, with a track from P's reverse leg to Q's.
func loop() *yard {
	y := begun()
	y.Point("Q")
	y.Plain("T", "U", "X")
	y.Join("P.n", "T.a")
	y.Join("T.b", "Q.n")
	y.Join("Q.t", "X.a")
	y.Join("P.r", "U.a")
	y.Join("U.b", "Q.r")
	return y
}

// A search ends at the way's own points: they stay as they are.
func TestOwnSectionsOfTheWay(t *testing.T) {
	loop().first(t, "P1 Q1", "")
	y := loop()
	y.Post("B", "U.b") // for who leaves U towards Q
	y.first(t, "P1 Q1", "B")
	y.Post("C", "U.a")
	y.first(t, "P1 Q1", "B C")
}

func TestOwnSectionsOfTheOverlap(t *testing.T) {
	y := begun()
	y.Point("Q")
	y.Plain("T")
	y.Join("P.n", "T.a")
	y.Join("T.b", "Q.t")
	y.Join("P.r", "Q.n")
	y.Post("B", "T.b")
	protects(t, y.plan(t, 5), 0, 0, "P1 Q1", "")
	// without one Q is no own section
	protects(t, y.plan(t, 0), 0, 0, "P1 Q2", "")
}

// A plain section of the way ends a search, too: no signal of it protects.
func TestOwnPlainSections(t *testing.T) {
	y := begun()
	y.Plain("T")
	y.Join("P.n", "T.a")
	y.Join("T.b", "P.r")
	y.Post("B", "T.a")
	y.Post("C", "T.b")
	y.first(t, "P1", "")
	// whether it is the way's, or the overlap's
	y = begun()
	y.Plain("T", "U")
	y.Join("P.n", "T.a")
	y.Join("T.b", "U.a")
	y.Join("U.b", "P.r")
	y.Post("B", "T.b")
	y.Post("C", "U.b")
	protects(t, y.plan(t, 5), 0, 0, "P1", "")
	protects(t, y.plan(t, 0), 0, 0, "P1", "C")
}

// A signal of one of the way's own sections protects nothing, be it at the very leg from which the search goes.
func TestSignalsOfOwnSections(t *testing.T) {
	y := begun()
	y.Post("B", "P.r")
	y.Post("C", "P.t")
	y.ahead("D", "P.r", 2)
	y.first(t, "P1", "D")
}

// The section of the way's signal is none of its own.
func TestTheSignalsSectionIsNoneOfItsOwn(t *testing.T) {
	y := begun()
	y.Join("P.r", "W.a")
	y.first(t, "P1", "")
	y.Post("B", "W.a")
	y.first(t, "P1", "B")
}

// A way round, in which a search comes back to the point from which it went.
func TestBackToThePointItself(t *testing.T) {
	y := begun()
	y.Join(y.Row("P.r", 3), "W.a")
	y.first(t, "P1", "")
}

// What a search has looked at it looks at no more, by whichever end.
func TestSectionsLookedAtAlready(t *testing.T) {
	y := begun()
	normal, reverse := y.Fork("P.r")
	y.Plain("X")
	y.Join(normal, "X.a")
	y.Join(reverse, "X.b")
	y.first(t, "P1", "")
	y.Post("C", "X.b")
	y.first(t, "P1", "") // from X.a back into the fork, to the leg that isn't gone on from yet
	y.Post("B", "X.a")
	y.first(t, "P1", "B")
	y = begun()
	y.Ring("P.r")
	y.first(t, "P1", "")
}

// Both legs of a toe lead to one point's legs: it is asked for from the normal one, and not gone through from the other.
func TestPointsLookedAtAlready(t *testing.T) {
	for legs, want := range map[[2]string]string{{"Q.n", "Q.r"}: "P1 Q2", {"Q.r", "Q.n"}: "P1 Q1"} {
		y := begun()
		normal, reverse := y.Fork("P.r")
		y.Point("Q")
		y.Join(normal, legs[0])
		y.Join(reverse, legs[1])
		y.ahead("B", "Q.t", 1)
		y.first(t, want, "")
	}
}

// Each search looks anew: two from both ends of one section.
func TestEachSearchLooksAnew(t *testing.T) {
	y := straight("P", "Q")
	y.Plain("X", "Y")
	y.Join("P.r", "X.a")
	y.Join("X.b", "Y.a")
	y.Join("Y.b", "Q.r")
	y.first(t, "P1 Q1", "")
	y.Post("B", "X.a")
	y.first(t, "P1 Q1", "B")
	y.Post("C", "Y.b")
	y.first(t, "P1 Q1", "B C")
}

// P10.1, 1: as many sections as it looks at.

func TestRowsToASignal(t *testing.T) {
	for n := 1; n < 14; n++ {
		y := begun()
		y.ahead("B", "P.r", n)
		want := "B"
		if n > api.MaxFlank {
			want = ""
		}
		y.first(t, "P1", want)
	}
}

func TestRowsToAPoint(t *testing.T) {
	for n := range 14 {
		y := begun()
		last := y.Row("P.r", n)
		y.Point("Q")
		y.Join(last, "Q.r")
		want := "P1 Q1"
		if n+1 > api.MaxFlank {
			want = "P1"
		}
		y.first(t, want, "")
	}
}

// Behind a toe both legs' sections count: those of the first one, with all behind it, ahead of the second one's.
func TestLegsCountTogether(t *testing.T) {
	for n := 1; n < 9; n++ {
		for m := 1; m < 9; m++ {
			y := begun()
			normal, reverse := y.Fork("P.r")
			y.ahead("B", normal, n)
			y.ahead("C", reverse, m)
			want := ""
			if 1+n <= api.MaxFlank {
				want += " B"
			}
			if 1+n+m <= api.MaxFlank {
				want += " C"
			}
			y.first(t, "P1", want)
		}
	}
}

// Behind the toe of a toe, too: the inner legs are gone on from ahead of the outer one.
func TestToesInToes(t *testing.T) {
	for n := range 8 {
		left := max(0, api.MaxFlank-2-n) // behind both toes, and a row between
		y := begun()
		normal, reverse := y.Fork("P.r")
		a, b := y.Fork(y.Row(normal, n))
		y.ahead("B", a, 1)
		y.ahead("C", b, 1)
		y.ahead("D", reverse, 1)
		y.first(t, "P1", []string{"", "B", "B C", "B C D"}[min(3, left)])
		y = begun()
		normal, reverse = y.Fork("P.r")
		a, b = y.Fork(y.Row(reverse, n))
		y.ahead("B", a, 1)
		y.ahead("C", b, 1)
		y.ahead("D", normal, 1)
		y.first(t, "P1", []string{"D", "D", "B D", "B C D"}[min(3, left)])
	}
}

// Sections at which it ends without looking at them don't count: own ones, and those looked at already.
func TestWhatDoesNotCount(t *testing.T) {
	for n, want := range map[int]string{7: "C", 8: ""} {
		y := begun()
		y.Plain("T")
		y.Join("P.n", "T.a")
		y.Post("B", "T.b") // the way ends there
		normal, reverse := y.Fork("P.r")
		y.Join("T.b", normal)
		y.ahead("C", reverse, n)
		y.first(t, "P1", want)
	}
	for n, want := range map[int]string{6: "B", 7: ""} {
		y := begun()
		normal, reverse := y.Fork("P.r")
		y.Ring(normal)
		y.ahead("B", reverse, n)
		y.first(t, "P1", want)
	}
}

func TestEachSearchCountsFromTheBeginning(t *testing.T) {
	y := straight("P", "Q")
	y.ahead("B", "P.r", 8)
	y.ahead("C", "Q.r", 8)
	y.first(t, "P1 Q1", "B C")
	y = straight("P", "Q")
	y.ahead("B", "P.r", 9)
	y.ahead("C", "Q.r", 8)
	y.first(t, "P1 Q1", "C")
}

// P10.1, 2: signals.

func TestSignalsForOthers(t *testing.T) {
	// at the far end of a section, for who leaves it away from the way
	y := begun()
	last := y.Row("P.r", 1)
	y.Post("B", last)
	y.ahead("C", last, 1)
	y.first(t, "P1", "C")
	y = begun()
	last = y.Row("P.r", 1)
	y.Post("B", last)
	y.Row(last, 1)
	y.first(t, "P1", "")
}

// The first one protects, those behind it don't.
func TestTheFirstSignalAlone(t *testing.T) {
	y := begun()
	last := y.Row("P.r", 1)
	y.Post("B", last[:len(last)-1]+"a")
	y.ahead("C", last, 1)
	y.first(t, "P1", "B")
}

// At a point's leg by which it would be left a signal protects, and the point isn't asked for.
func TestSignalsAtLegs(t *testing.T) {
	for _, leg := range []string{"n", "r"} {
		y := begun()
		y.Point("Q")
		y.Join("P.r", "Q."+leg)
		y.Post("B", "Q."+leg)
		y.ahead("C", "Q.t", 1)
		y.first(t, "P1", "B")
	}
}

// At its other ends it doesn't.
func TestSignalsAtOtherEndsOfAPoint(t *testing.T) {
	y := begun()
	y.Point("Q")
	y.Join("P.r", "Q.n")
	y.Row("Q.t", 1)
	y.Row("Q.r", 1)
	y.Post("B", "Q.t")
	y.Post("C", "Q.r")
	y.first(t, "P1 Q2", "")
	// nor at the legs of one that is entered by its toe
	y = begun()
	y.Point("Q")
	y.Join("P.r", "Q.t")
	y.Row("Q.n", 1)
	y.Row("Q.r", 1)
	y.Post("B", "Q.n")
	y.Post("C", "Q.r")
	y.first(t, "P1", "")
}

func TestSignalsAtToes(t *testing.T) {
	y := begun()
	y.Point("Q")
	y.Join("P.r", "Q.t")
	y.ahead("C", "Q.n", 1)
	y.ahead("D", "Q.r", 1)
	y.first(t, "P1", "C D")
	y.Post("B", "Q.t")
	y.first(t, "P1", "B")
}

// Signals are told rising, whatever the order in which they are found, and each once.
func TestSignalsRising(t *testing.T) {
	y := straight("P", "Q", "R", "S")
	y.ahead("E", "P.r", 1)
	y.ahead("C", "Q.r", 1)
	y.ahead("D", "R.r", 1)
	y.ahead("B", "S.r", 1)
	y.first(t, "P1 Q1 R1 S1", "B C D E")
	p := y.plan(t, 0)
	steps, _ := way(t, p, 0, 0)
	answers(t, p, steps, steps, demands(t, p, "P1 Q1 R1 S1"), signals(t, p, "B C D E"))
}

// P10.1, 3: plain sections are gone through from either end.

func TestPlainSectionsFromEitherEnd(t *testing.T) {
	y := begun()
	y.Plain("X", "Y", "Z")
	y.Join("P.r", "X.b")
	y.Join("X.a", "Y.a")
	y.Join("Y.b", "Z.b")
	y.Post("C", "X.a")
	y.Post("D", "Y.b")
	y.first(t, "P1", "")
	y.Post("B", "Z.b")
	y.first(t, "P1", "B")
}

// P10.1, 5: points that are asked for.

func TestPointsByALeg(t *testing.T) {
	for leg, want := range map[string]string{"n": "P1 Q2", "r": "P1 Q1"} {
		y := begun()
		last := y.Row("P.r", 2)
		y.Point("Q")
		y.Join(last, "Q."+leg)
		y.ahead("B", "Q.t", 1)
		y.ahead("C", map[string]string{"n": "Q.r", "r": "Q.n"}[leg], 1)
		y.first(t, want, "")
	}
}

// Demands stand by their points, not as they are asked for.
func TestDemandsInOrder(t *testing.T) {
	y := straight("M", "H")
	y.Point("Z", "B")
	y.Join("M.r", "Z.n")
	y.Join("H.r", "B.r")
	y.first(t, "B1 H1 M1 Z2", "")
}

// merged is a yard in which the way goes over the points K, and then L, whose reverse legs lead to R's legs, with a signal behind R's toe.
func merged(first, second, k, l string) *yard {
	y := straight(first, second)
	y.Point("R")
	y.Join("K.r", "R."+k)
	y.Join("L.r", "R."+l)
	y.ahead("B", "R.t", 1)
	return y
}

// A point that an earlier search asked for, so that it lies for this one, is gone through: what lies behind its toe protects.
func TestPointsThatAnEarlierSearchAskedFor(t *testing.T) {
	merged("K", "L", "n", "r").first(t, "K1 L1 R2", "B")
	merged("L", "K", "n", "r").first(t, "K1 L1 R1", "B")
	merged("K", "L", "r", "n").first(t, "K1 L1 R1", "B")
	merged("L", "K", "r", "n").first(t, "K1 L1 R2", "B")
}

// The overlap's searches come behind the way's, wherever its points stand.
func TestTheOverlapsSearchesComeLast(t *testing.T) {
	lay := func(first, second string) api.Plan {
		y := &yard{}
		y.Plain("W", "T")
		y.Point(first, second, "R")
		y.Join("W.b", first+".t")
		y.Join(first+".n", "T.a")
		y.Join("T.b", second+".t")
		y.Join("K.r", "R.n")
		y.Join("L.r", "R.r")
		y.ahead("C", "R.t", 1)
		y.Post("A", "W.b")
		y.Post("B", "T.b")
		return y.plan(t, 5)
	}
	protects(t, lay("K", "L"), 0, 0, "K1 L1 R2", "C")
	protects(t, lay("L", "K"), 0, 0, "K1 L1 R1", "C")
	p := lay("K", "L")
	p.Overlap = 0
	protects(t, p, 0, 0, "K1 R2", "")
}

// A search goes through several points that lie for it, and asks for the next one.
func TestThroughSeveralPoints(t *testing.T) {
	y := straight("K", "L", "M")
	y.Point("R", "S", "Z")
	y.Join("K.r", "R.n") // R is asked for in 2
	y.Join("L.r", "S.r") // S in 1
	y.Join("M.r", "R.r")
	y.Join("R.t", "S.n")
	y.Join("S.t", "Z.n")
	y.first(t, "K1 L1 M1 R2 S1 Z2", "")
}

// A search that comes once more to where an earlier one asked for a point ends there.
func TestPointsThatLieAway(t *testing.T) {
	y := begun()
	y.Point("Q")
	y.Join("P.r", "Q.n")
	y.ahead("B", "Q.t", 1)
	p := y.plan(t, 0)
	steps, _ := way(t, p, 0, 0)
	answers(t, p, steps, steps, demands(t, p, "P1 Q2"), nil)
}

// What a search asks for is asked for in those behind it alone: an earlier one isn't gone on with.
func TestEarlierSearchesStayAsTheyWere(t *testing.T) {
	for order, want := range map[[2]string]string{{"K", "L"}: "K1 L1 R2", {"L", "K"}: "K1 L1 R1"} {
		y := straight(order[0], order[1])
		y.Point("R", "S")
		y.Join("K.r", "S.t")
		y.Join("S.n", "R.n")
		y.Join("L.r", "R.r")
		y.ahead("B", "S.r", 1)
		y.ahead("C", "R.t", 1)
		y.first(t, want, "B C")
	}
}

// Wrong inputs: steps of no section, or of ends that a point hasn't.

func TestStepsOfNoSection(t *testing.T) {
	p := build(t, station)
	steps, behind := way(t, p, 0, 0)
	points, flanks := demands(t, p, "P1 Q1"), signals(t, p, "C H")
	for _, s := range []int{math.MinInt, -1 << 32, -2, -1, 8, 24, 1 << 31, 1<<32 + 2, math.MaxInt} {
		x := api.Step{Section: s, From: 0, To: 1}
		answers(t, p, []api.Step{x}, []api.Step{x}, nil, nil)
		answers(t, p, append([]api.Step{x}, steps...), append([]api.Step{x}, behind...), points, flanks)
		answers(t, api.Plan{}, []api.Step{x}, []api.Step{x}, nil, nil)
	}
	answers(t, p, []api.Step{{Section: 2}, {Section: 3, From: -1, To: -2}}, nil, nil, nil)
}

// P10.1, P10.2: stations that are drawn.

// tally counts what searches come to, so that a test isn't held by some rules alone.
type tally struct{ stopped, own, again, more, signal, plain, toe, asks, lies, away int }

// enough tells whether each rule was met so often; that a point lies away is told apart, since no search comes to one for a way and its own overlap.
func (c tally) enough(n int) bool {
	return min(c.stopped, c.own, c.again, c.more, c.signal, c.plain, c.toe, c.asks, c.lies) >= n
}

// side is what told finds.
type side struct {
	points []api.Demand
	flanks []int
}

// told looks at the ends that are still to be looked at, the last one first, by what the station tells of them.
func told(p api.Plan, l []api.Step, c *tally) side {
	own, asked, flanks := map[int]bool{}, map[int]int{}, map[int]bool{}
	for _, x := range l {
		own[x.Section] = true
		if p.Sections[x.Section].Point {
			asked[x.Section] = x.From + x.To
		}
	}
	for _, x := range l {
		if !p.Sections[x.Section].Point {
			continue
		}
		looked := map[int]bool{}
		todo := []api.End{p.Sections[x.Section].Ends[3-x.From-x.To]}
		for len(todo) > 0 {
			e := todo[len(todo)-1]
			todo = todo[:len(todo)-1]
			switch {
			case e.To < 0:
				c.stopped++
				continue
			case own[e.To]:
				c.own++
				continue
			case looked[e.To]:
				c.again++
				continue
			case len(looked) == 8:
				c.more++
				continue
			}
			looked[e.To] = true
			switch s := p.Sections[e.To]; {
			case s.Ends[e.At].Signal >= 0:
				c.signal++
				flanks[s.Ends[e.At].Signal] = true
			case !s.Point:
				c.plain++
				todo = append(todo, s.Ends[1-e.At])
			case e.At == 0:
				c.toe++
				todo = append(todo, s.Ends[2], s.Ends[1])
			case asked[e.To] == 0:
				c.asks++
				asked[e.To] = 3 - e.At
			case asked[e.To] == e.At:
				c.lies++
				todo = append(todo, s.Ends[0])
			default:
				c.away++
			}
		}
	}
	var all side
	for s := range p.Sections {
		if asked[s] != 0 {
			all.points = append(all.points, api.Demand{Point: s, Position: asked[s]})
		}
	}
	for i := range p.Signals {
		if flanks[i] {
			all.flanks = append(all.flanks, i)
		}
	}
	return all
}

// holds holds each way of a station, with its overlap, against told, and for itself.
func holds(t *testing.T, p api.Plan, c *tally) {
	t.Helper()
	for signal := range p.Signals {
		ways, _ := course.Of(p, signal)
		for _, w := range ways {
			behind, err := lap.Of(p, signal, w)
			if err != api.OK {
				continue
			}
			all := slices.Concat(w.Steps, behind)
			want := told(p, all, c)
			answers(t, p, w.Steps, behind, want.points, want.flanks)
			each(t, p, w.Steps, behind)
		}
	}
}

// each holds that a way's own points are asked for as it goes, all demands in order, and that no signal is one of its own sections'.
func each(t *testing.T, p api.Plan, steps, behind []api.Step) {
	t.Helper()
	all := slices.Concat(steps, behind)
	points, flanks := flank.Of(p, steps, behind)
	for _, x := range all {
		if n := walk.Position(p, x); demand.Position(points, x.Section) != n {
			t.Errorf("section %d is asked for in %d, want %d, by %v, of %+v", x.Section, demand.Position(points, x.Section), n, all, p)
		}
	}
	for i, x := range points {
		if x.Position != 1 && x.Position != 2 || !p.Sections[x.Point].Point || i > 0 && points[i-1].Point >= x.Point {
			t.Errorf("demands %v, of %+v", points, p)
		}
	}
	if demand.Opposed(points, demand.Of(p, all)) || demand.Opposed(demand.Of(p, all), points) {
		t.Errorf("demands %v are opposed to those of %v, of %+v", points, all, p)
	}
	for i, x := range flanks {
		if x < 0 || x >= len(p.Signals) || walk.Within(all, p.Signals[x].Section) || i > 0 && flanks[i-1] >= x {
			t.Errorf("signals %v of %v, of %+v", flanks, all, p)
		}
	}
}

func TestDrawnSmallStations(t *testing.T) {
	r := rand.New(rand.NewSource(12))
	var c tally
	for range 12000 {
		points, plains := 1+r.Intn(6), 1+r.Intn(4)
		ends := 3*points + 2*plains
		p := build(t, example.Drawn(r.Intn, points, plains, ends/2-r.Intn(3), 1+r.Intn(4)))
		p.Overlap = r.Intn(20)
		holds(t, p, &c)
		if t.Failed() {
			return
		}
	}
	c.more = 500 // small stations have too few sections
	if !c.enough(500) || c.away > 0 {
		t.Errorf("too few of a kind: %+v", c)
	}
}

func TestDrawnGreatStations(t *testing.T) {
	r := rand.New(rand.NewSource(13))
	var c tally
	for range 4000 {
		sections := 12 + r.Intn(13)
		points := sections/3 + r.Intn(sections/3)
		ends := 2*sections + points
		p := build(t, example.Drawn(r.Intn, points, sections-points, ends/2-r.Intn(3), 1+r.Intn(4)))
		p.Overlap = r.Intn(40)
		holds(t, p, &c)
		if t.Failed() {
			return
		}
	}
	if !c.enough(500) || c.away > 0 {
		t.Errorf("too few of a kind: %+v", c)
	}
}

// grow lays up to so many sections behind an end, most of them forks by their toes, so that there is much to look at.
func (y *yard) grow(r *rand.Rand, from string, most int) {
	for most > 1 {
		if r.Intn(3) > 0 {
			from = y.Row(from, 1)
			most--
			if r.Intn(8) == 0 {
				break
			}
			continue
		}
		normal, reverse := y.Fork(from)
		cut := r.Intn(most)
		y.grow(r, normal, cut)
		y.grow(r, reverse, most-1-cut)
		return
	}
}

// Trees of forks, with signals here and there: searches look at as many sections as there may be, on both legs.
func TestGrownStations(t *testing.T) {
	r := rand.New(rand.NewSource(14))
	var c tally
	for range 6000 {
		y := begun()
		y.grow(r, "P.r", 12+r.Intn(10))
		p := build(t, y.Text())
		posted(r, &p, r.Intn(5))
		holds(t, p, &c)
		if t.Failed() {
			return
		}
	}
	if c.more < 500 || c.signal < 500 || c.toe < 500 || c.stopped < 500 {
		t.Errorf("too few of a kind: %+v", c)
	}
}

// posted puts up to so many more signals at ends that lead somewhere.
func posted(r *rand.Rand, p *api.Plan, n int) {
	for range n {
		s, end := r.Intn(len(p.Sections)), r.Intn(3)
		if e := &p.Sections[s].Ends[end]; e.To >= 0 && e.Signal < 0 {
			e.Signal = len(p.Signals)
			p.Signals = append(p.Signals, api.Signal{Name: "Z" + strconv.Itoa(len(p.Signals)), Section: s, End: end})
		}
	}
}

// The steps of a way, and the overlap of another one, whatever they go through twice.
func TestOverlapsOfOtherWays(t *testing.T) {
	r := rand.New(rand.NewSource(15))
	var c tally
	for range 3000 {
		points, plains := 1+r.Intn(8), 1+r.Intn(6)
		ends := 3*points + 2*plains
		p := build(t, example.Drawn(r.Intn, points, plains, ends/2-r.Intn(3), 1+r.Intn(4)))
		p.Overlap = 1 + r.Intn(40)
		var ways, laps [][]api.Step
		for signal := range p.Signals {
			l, _ := course.Of(p, signal)
			for _, w := range l {
				behind, _ := lap.Of(p, signal, w)
				ways, laps = append(ways, w.Steps), append(laps, behind)
			}
		}
		for i, steps := range ways {
			for _, behind := range [][]api.Step{steps, laps[r.Intn(len(laps))], laps[i]} {
				all := slices.Concat(steps, behind)
				if demand.Opposed(demand.Of(p, all), demand.Of(p, behind)) {
					continue // told knows of one position of a point
				}
				want := told(p, all, &c)
				answers(t, p, steps, behind, want.points, want.flanks)
			}
		}
		if t.Failed() {
			return
		}
	}
	if c.away < 500 {
		t.Errorf("too few of a kind: %+v", c)
	}
}

// What is handed in isn't changed, answers are new, nothing is kept, and many may call at once.

// A plan's numbers, and lengths, say nothing of what protects.
func TestNumbersSayNothing(t *testing.T) {
	p := build(t, station)
	steps, behind := way(t, p, 0, 0)
	for _, n := range []int{0, 1, 1 << 50} {
		p.Overlap, p.Approach, p.Settle, p.Hold = n, n, n, n
		for i := range p.Sections {
			p.Sections[i].Length = n
		}
		answers(t, p, steps, behind, demands(t, p, "P1 Q1"), signals(t, p, "C H"))
	}
}

// spare gives steps with room behind them, that is filled.
func spare(l []api.Step) []api.Step {
	n := len(l)
	l = slices.Clone(l)
	for range 20 {
		l = append(l, api.Step{Section: 2, From: 2, To: 0})
	}
	return l[:n:cap(l)]
}

func TestWhatIsHandedInStaysAsItWas(t *testing.T) {
	for _, text := range []string{station, merged("K", "L", "n", "r").Text()} {
		p := build(t, text)
		p.Sections = slices.Grow(slices.Clone(p.Sections), 4)
		p.Signals = slices.Grow(slices.Clone(p.Signals), 4)
		sections, all := slices.Clone(p.Sections[:cap(p.Sections)]), slices.Clone(p.Signals[:cap(p.Signals)])
		steps, behind := way(t, p, 0, 0)
		steps, behind = spare(steps), spare(behind)
		a, b := slices.Clone(steps[:cap(steps)]), slices.Clone(behind[:cap(behind)])
		points, flanks := flank.Of(p, steps, behind)
		clear(points[:cap(points)])
		clear(flanks[:cap(flanks)])
		if !slices.Equal(steps[:cap(steps)], a) || !slices.Equal(behind[:cap(behind)], b) {
			t.Error("steps, or their spare room, were changed")
		}
		if !slices.Equal(p.Sections[:cap(p.Sections)], sections) || !slices.Equal(p.Signals[:cap(p.Signals)], all) {
			t.Error("a plan, or its spare room, was changed")
		}
	}
}

func TestAnswersStandAlone(t *testing.T) {
	p := build(t, station)
	steps, behind := way(t, p, 0, 0)
	a, b := flank.Of(p, steps, behind)
	c, d := flank.Of(p, steps, behind)
	clear(a[:cap(a)])
	clear(b[:cap(b)])
	if !slices.Equal(c, demands(t, p, "P1 Q1")) || !slices.Equal(d, signals(t, p, "C H")) {
		t.Error("two answers share their memory")
	}
	answers(t, p, steps, behind, demands(t, p, "P1 Q1"), signals(t, p, "C H"))
}

func TestCallsHangOnTheirArgumentsAlone(t *testing.T) {
	p, q := build(t, station), merged("K", "L", "n", "r").plan(t, 0)
	steps, behind := way(t, p, 0, 0)
	side, none := way(t, q, 0, 0)
	steps, behind = spare(steps), spare(behind)
	points, flanks := demands(t, p, "P1 Q1"), signals(t, p, "C H")
	more, other := demands(t, q, "K1 L1 R2"), signals(t, q, "B")
	var all sync.WaitGroup
	for range 8 {
		all.Go(func() {
			for range 100 {
				answers(t, p, steps, behind, points, flanks)
				answers(t, q, side, none, more, other)
				answers(t, p, nil, behind, points[1:], flanks[:1])
			}
		})
	}
	all.Wait()
}
