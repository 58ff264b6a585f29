package near_test

import (
	"math"
	"math/rand"
	"slices"
	"strings"
	"sync"
	"testing"

	"leverman/api"
	"leverman/example"
	"leverman/near"
	"leverman/plan"
	"leverman/sheet"
	"leverman/walk"
)

const (
	station = example.Station
	endless = 1 << 50 // a distance that no way is long enough for
)

// strange are numbers of no signal: some are one of a small station's in fewer bits.
var strange = []int{math.MinInt, math.MinInt + 1, -1 << 32, -256, -3, -2, -1, 12, 13, 256, 257, 1 << 31, 1 << 32, 1<<32 + 1, math.MaxInt - 1, math.MaxInt}

func build(t *testing.T, text string) api.Plan {
	t.Helper()
	l, f := sheet.Parse(text)
	p, g := plan.Build(l)
	if f != (api.Fault{}) || g != (api.Fault{}) {
		t.Fatalf("%q is no station: %+v, %+v", text, f, g)
	}
	return p
}

// yard is a station as a test lays it.
type yard struct{ example.Layout }

func (y *yard) plan(t *testing.T) api.Plan {
	t.Helper()
	return build(t, y.Text())
}

// begun is a yard of the sections W and V, with the signal A at W.b, for who goes on to V.
func begun() *yard {
	y := &yard{}
	y.Plain("W", "V")
	y.Join("W.b", "V.a")
	y.Post("A", "W.b")
	return y
}

func answers(t *testing.T, p api.Plan, signal int, want []int, long int) {
	t.Helper()
	if l, n := near.Of(p, signal); !slices.Equal(l, want) || n != long {
		t.Errorf("Of(%d) = %v, %d, want %v, %d, of %+v", signal, l, n, want, long, p)
	}
}

// find gives the place of a section.
func find(t *testing.T, p api.Plan, name string) int {
	t.Helper()
	s := plan.Find(p.Sections, name)
	if s < 0 {
		t.Fatalf("no section %q", name)
	}
	return s
}

// from holds from which sections a train may come, if it is to be less than this approach away.
func from(t *testing.T, p api.Plan, signal, approach int, names string) {
	t.Helper()
	p.Approach = approach
	var want []int
	long := 0
	for _, name := range strings.Fields(names) {
		s := find(t, p, name)
		want = append(want, s)
		long += p.Sections[s].Length
	}
	slices.Sort(want)
	answers(t, p, signal, want, long)
}

// rung is how far a train must be off, at least, that sections are among those from which it may come.
type rung struct {
	distance int
	names    string
}

// ladder holds that at each distance its sections are left out, and come with one more, and that they are all that do.
func ladder(t *testing.T, p api.Plan, signal int, rungs ...rung) {
	t.Helper()
	names := ""
	for _, x := range rungs {
		from(t, p, signal, x.distance, names)
		names += " " + x.names
		from(t, p, signal, x.distance+1, names)
	}
	from(t, p, signal, endless, names)
}

// P11.1: the document's station, and the chapter's example.

func TestSignalsInTheStation(t *testing.T) {
	p := build(t, station)
	ladder(t, p, 0, rung{0, "W"}, rung{9000, "V"})
	ladder(t, p, 1, rung{0, "T"}, rung{7000, "P"}, rung{12000, "W"}, rung{21000, "V"})
	ladder(t, p, 2, rung{0, "U"}, rung{7000, "P"}, rung{12000, "W"}, rung{21000, "V"})
	ladder(t, p, 3, rung{0, "E"}, rung{9000, "F"})
	ladder(t, p, 4, rung{0, "T"}, rung{7000, "Q"}, rung{12000, "E"}, rung{21000, "F"})
	ladder(t, p, 5, rung{0, "U"}, rung{7000, "Q"}, rung{12000, "E"}, rung{21000, "F"})
	ladder(t, p, 6, rung{0, "V"})
	ladder(t, p, 7, rung{0, "F"})
}

func TestTheChaptersExample(t *testing.T) {
	p := build(t, station)
	answers(t, p, 0, []int{6, 7}, 17000)
	p.Approach = 9000
	answers(t, p, 0, []int{7}, 9000)
}

// The numbers as they are told, with each signal's answer by hand.
func TestAnswersByHand(t *testing.T) {
	p := build(t, station)
	for i, x := range []struct {
		want []int
		long int
	}{
		{[]int{6, 7}, 17000},
		{[]int{2, 4, 7}, 21000},
		{[]int{2, 5, 7}, 21000},
		{[]int{0, 1}, 17000},
		{[]int{0, 3, 4}, 21000},
		{[]int{0, 3, 5}, 21000},
		{[]int{6}, 8000},
		{[]int{1}, 8000},
	} {
		answers(t, p, i, x.want, x.long)
	}
}

// P11.1: how far an end is.

// From a toe both legs lead a train there, from a leg the toe alone does.
func TestThroughPoints(t *testing.T) {
	text := strings.Replace(station, "signal A W.b", "signal K P.t\nsignal L P.n\nsignal M P.r", 1)
	text = strings.Replace(text, "section U 7000", "section U 7300", 1)
	p := build(t, text)
	at := func(name string) int {
		return slices.IndexFunc(p.Signals, func(x api.Signal) bool { return x.Name == name })
	}
	ladder(t, p, at("K"), rung{0, "P"}, rung{5000, "T U"}, rung{12000, "Q"}, rung{17000, "E"}, rung{26000, "F"})
	ladder(t, p, at("L"), rung{0, "P"}, rung{5000, "W"}, rung{14000, "V"})
	ladder(t, p, at("M"), rung{0, "P"}, rung{5000, "W"}, rung{14000, "V"})
}

// Of two ways to a signal the shorter one is told, whichever leg it goes over.
func TestTheShorterWay(t *testing.T) {
	for _, legs := range [][2]string{{"n", "r"}, {"r", "n"}} {
		y := begun()
		y.Point("P", "Q")
		y.Plain("S", "L", "M", "Z")
		y.Join("W.a", "P.t")
		y.Join("P."+legs[0], "S.a")
		y.Join("S.b", "Q."+legs[0])
		y.Join("P."+legs[1], "L.b")
		y.Join("L.a", "M.a")
		y.Join("M.b", "Q."+legs[1])
		y.Join("Q.t", "Z.b")
		p := y.plan(t)
		ladder(t, p, 0, rung{0, "W"}, rung{5, "P"}, rung{10, "S L"}, rung{15, "Q M"}, rung{20, "Z"})
		// fewer sections aren't the shorter way
		p.Sections[find(t, p, "S")].Length = 70
		ladder(t, p, 0, rung{0, "W"}, rung{5, "P"}, rung{10, "S L"}, rung{15, "M"}, rung{20, "Q"}, rung{25, "Z"})
		p.Sections[find(t, p, "S")].Length = 9
		ladder(t, p, 0, rung{0, "W"}, rung{5, "P"}, rung{10, "S L"}, rung{15, "M"}, rung{19, "Q"}, rung{24, "Z"})
	}
}

// A section of which one end is near enough is there, also if its others aren't, and all its length counts, once.
func TestOneEndIsEnough(t *testing.T) {
	y := begun()
	y.Point("P")
	y.Join("W.a", "P.n")
	y.Row("P.t", 1)
	y.Row("P.r", 1)
	p := y.plan(t)
	p.Sections[find(t, p, "P")].Length = 1000
	p.Approach = 6
	answers(t, p, 0, []int{find(t, p, "P"), find(t, p, "W")}, 1005)
}

// A section with several near ends counts once.
func TestSeveralEndsNear(t *testing.T) {
	y := &yard{}
	y.Plain("W")
	y.Point("P")
	y.Join("W.b", "P.t")
	y.Join("P.n", "P.r")
	y.Post("A", "P.t")
	p := y.plan(t)
	p.Sections[find(t, p, "W")].Length = 7
	// round the ring: in by the toe, and over one leg to the other
	ladder(t, p, 0, rung{0, "P"}, rung{10, "W"})
	p.Approach = 10
	answers(t, p, 0, []int{0}, 5)
	p.Approach = 11
	answers(t, p, 0, []int{0, 1}, 12)
}

// Round a ring one comes back to the signal's own section, whose end stays 0 away.
func TestRings(t *testing.T) {
	y := &yard{}
	y.Plain("W")
	y.Join("W.a", "W.b")
	y.Post("A", "W.b")
	ladder(t, y.plan(t), 0, rung{0, "W"})
	y = begun()
	y.Plain("X")
	y.Join("V.b", "X.b")
	y.Join("X.a", "W.a")
	ladder(t, y.plan(t), 0, rung{0, "W"}, rung{5, "X"}, rung{10, "V"})
	// against the ring no train comes to A, but behind a point that turns it
	y = begun()
	y.Ring("V.b")
	ladder(t, y.plan(t), 0, rung{0, "W"})
	y.Post("B", "V.a")
	ladder(t, y.plan(t), 1, rung{0, "V"}, rung{5, "f4"}, rung{20, "W"})
}

// What lies ahead of the signal for who passes it is not where a train comes from.
func TestNotFromBeyondTheSignal(t *testing.T) {
	y := begun()
	y.Row("V.b", 3)
	ladder(t, y.plan(t), 0, rung{0, "W"})
	y.Plain("X", "Y")
	y.Join("W.a", "X.b")
	y.Join("X.a", "Y.b")
	ladder(t, y.plan(t), 0, rung{0, "W"}, rung{5, "X"}, rung{10, "Y"})
}

// Signals on the way keep no train away, for whomever they stand.
func TestPastSignals(t *testing.T) {
	y := begun()
	y.Plain("X", "Y")
	y.Join("W.a", "X.b")
	y.Join("X.a", "Y.b")
	y.Post("B", "X.b")
	y.Post("C", "W.a")
	y.Post("D", "Y.b")
	y.Post("E", "X.a")
	p := y.plan(t)
	ladder(t, p, 0, rung{0, "W"}, rung{5, "X"}, rung{10, "Y"})
	ladder(t, p, 1, rung{0, "X"}, rung{5, "Y"})
	ladder(t, p, 2, rung{0, "W"}, rung{5, "V"})
	ladder(t, p, 3, rung{0, "Y"})
	ladder(t, p, 4, rung{0, "X"}, rung{5, "W"}, rung{10, "V"})
}

// The lengths of the sections between count: not that of the section that is left, nor of the one behind the signal.
func TestWhichLengthsCount(t *testing.T) {
	y := begun()
	y.Plain("X", "Y", "Z")
	y.Join("W.a", "X.b")
	y.Join("X.a", "Y.a")
	y.Join("Y.b", "Z.b")
	p := y.plan(t)
	for name, n := range map[string]int{"V": 50000, "W": 1, "X": 20, "Y": 300, "Z": 4000} {
		p.Sections[find(t, p, name)].Length = n
	}
	ladder(t, p, 0, rung{0, "W"}, rung{1, "X"}, rung{21, "Y"}, rung{321, "Z"})
	p.Approach = 22
	answers(t, p, 0, []int{1, 2, 3}, 321)
}

// As many sections as there may be, as long as they may be: numbers of more than 32 bits.
func TestLongSections(t *testing.T) {
	y := begun()
	names, last := []string{"W"}, "W.a"
	for range api.MaxSections - 2 {
		last = y.Row(last, 1)
		names = append(names, last[:len(last)-2])
	}
	p := y.plan(t)
	for i := range p.Sections {
		p.Sections[i].Length = api.MaxLength
	}
	var rungs []rung
	for i, name := range names {
		rungs = append(rungs, rung{i * api.MaxLength, name})
	}
	ladder(t, p, 0, rungs...)
	p.Approach = endless
	if l, n := near.Of(p, 0); len(l) != 23 || n != 23<<40 {
		t.Errorf("%v, %d", l, n)
	}
}

// P11.1: none.

func TestWhereNoneIsAskedFor(t *testing.T) {
	p := build(t, station)
	p.Approach = 0
	for i := range p.Signals {
		answers(t, p, i, nil, 0)
	}
	p.Approach = 1
	answers(t, p, 0, []int{7}, 9000)
}

func TestSignalsThatThereArent(t *testing.T) {
	p := build(t, station)
	for _, p.Approach = range []int{0, 1, 15000, endless} {
		for _, signal := range append([]int{8, 9, 10, 11}, strange...) {
			answers(t, p, signal, nil, 0)
		}
	}
	for _, q := range []api.Plan{{}, {Approach: 1}, build(t, "approach 7\nsection W 1\nbuffer W.a\nbuffer W.b\n")} {
		for _, signal := range append([]int{0, 1, 2}, strange...) {
			answers(t, q, signal, nil, 0)
		}
	}
}

// Signals behind the last one lie in spare room: they aren't the station's.
func TestSignalsInSpareRoom(t *testing.T) {
	p := build(t, station)
	p.Signals = append(slices.Clone(p.Signals), p.Signals[0])[:8]
	answers(t, p, 8, nil, 0)
}

// P11.1, P11.2: stations that are drawn.

// goes tells whether a train that enters a section by an end may leave it by another one.
func goes(s api.Section, in, out int) bool {
	if !s.Point {
		return in+out == 1
	}
	return in != out && in*out == 0
}

// shortest goes on with a train that leaves a section by an end, by all ways to a signal.
func shortest(p api.Plan, x api.Signal, section, end int, gone map[[2]int]bool) int {
	e := p.Sections[section].Ends[end]
	if section == x.Section && end == x.End {
		return 0
	}
	at := [2]int{section, end}
	if e.To < 0 || gone[at] {
		return endless
	}
	gone[at] = true
	defer delete(gone, at)
	best := endless
	for out := range 3 {
		if goes(p.Sections[e.To], e.At, out) {
			best = min(best, p.Sections[e.To].Length+shortest(p, x, e.To, out, gone))
		}
	}
	return best
}

// byAllWays gives how far each end is, by all ways that lead to a signal.
func byAllWays(p api.Plan, x api.Signal) map[[2]int]int {
	all := map[[2]int]int{}
	for s := range p.Sections {
		for end := range 3 {
			if n := shortest(p, x, s, end, map[[2]int]bool{}); n < endless {
				all[[2]int{s, end}] = n
			}
		}
	}
	return all
}

// byHops gives how far each end is, by ways of one section, then of two, and so on.
func byHops(p api.Plan, x api.Signal) map[[2]int]int {
	all := map[[2]int]int{{x.Section, x.End}: 0}
	for range 3 * len(p.Sections) {
		more := map[[2]int]int{{x.Section, x.End}: 0}
		for s := range p.Sections {
			for end, e := range p.Sections[s].Ends {
				for out := range 3 {
					at := [2]int{s, end}
					if s == x.Section && end == x.End || e.To < 0 || !goes(p.Sections[e.To], e.At, out) {
						continue
					}
					n, ok := all[[2]int{e.To, out}]
					n += p.Sections[e.To].Length
					if old, was := more[at]; ok && (!was || n < old) {
						more[at] = n
					}
				}
			}
		}
		all = more
	}
	return all
}

// tally counts what was held, so that a test isn't held by short answers alone.
type tally struct{ one, some, many int }

// holds holds what each signal's answers are, for distances that rise, against how far each end is.
func holds(t *testing.T, p api.Plan, finder func(api.Plan, api.Signal) map[[2]int]int, c *tally) {
	t.Helper()
	for i, x := range p.Signals {
		far := finder(p, x)
		steps := []int{0, 1, endless}
		for _, n := range far {
			steps = append(steps, n, n+1)
		}
		slices.Sort(steps)
		var ahead []int
		for _, p.Approach = range slices.Compact(steps) {
			var want []int
			long := 0
			for s := range p.Sections {
				near := false
				for end := range 3 {
					n, ok := far[[2]int{s, end}]
					near = near || ok && n < p.Approach
				}
				if near {
					want = append(want, s)
					long += p.Sections[s].Length
				}
			}
			answers(t, p, i, want, long)
			ahead = more(t, p, i, ahead)
		}
		switch n := len(ahead); {
		case n == 1:
			c.one++
		case n < 6:
			c.some++
		default:
			c.many++
		}
	}
}

// more holds that no section is left out of those that a smaller distance gave, that the signal's own one is there, and that they rise.
func more(t *testing.T, p api.Plan, signal int, ahead []int) []int {
	t.Helper()
	l, n := near.Of(p, signal)
	for _, s := range ahead {
		if !slices.Contains(l, s) {
			t.Errorf("section %d is left out of %v, with %d, of %+v", s, l, p.Approach, p)
		}
	}
	if own := slices.Contains(l, p.Signals[signal].Section); own != (p.Approach > 0) {
		t.Errorf("the signal's own section in %v: %t, with %d, of %+v", l, own, p.Approach, p)
	}
	for i, s := range l {
		n -= p.Sections[s].Length
		if i > 0 && l[i-1] >= s {
			t.Errorf("%v doesn't rise, of %+v", l, p)
		}
	}
	if n != 0 {
		t.Errorf("%v are %d longer, or shorter, than told, of %+v", l, n, p)
	}
	return l
}

// measured draws the lengths of a station's sections.
func measured(r *rand.Rand, p api.Plan) api.Plan {
	most := []int{1, 3, 10, 1000, api.MaxLength}[r.Intn(5)]
	for i := range p.Sections {
		p.Sections[i].Length = 1 + r.Intn(most)
	}
	return p
}

func TestDrawnSmallStations(t *testing.T) {
	r := rand.New(rand.NewSource(16))
	var c tally
	for range 4000 {
		points, plains := r.Intn(5), 1+r.Intn(4)
		ends := 3*points + 2*plains
		p := measured(r, build(t, example.Drawn(r.Intn, points, plains, ends/2-r.Intn(3), 1+r.Intn(4))))
		holds(t, p, byAllWays, &c)
		holds(t, p, byHops, &c)
		if t.Failed() {
			return
		}
	}
	if c.one < 500 || c.some < 500 || c.many < 500 {
		t.Errorf("too few of a kind: %+v", c)
	}
}

func TestDrawnGreatStations(t *testing.T) {
	r := rand.New(rand.NewSource(17))
	var c tally
	for range 300 {
		sections := 12 + r.Intn(13)
		points := r.Intn(sections + 1)
		ends := 2*sections + points
		p := measured(r, build(t, example.Drawn(r.Intn, points, sections-points, ends/2-r.Intn(3), 1+r.Intn(12))))
		holds(t, p, byHops, &c)
		if t.Failed() {
			return
		}
	}
	if c.many < 500 {
		t.Errorf("too few of a kind: %+v", c)
	}
}

// The finders go through sections by a rule of their own, which is layer 6's.
func TestFindersGoAsLayerSixDoes(t *testing.T) {
	p := build(t, station)
	for s := range p.Sections {
		for in := range 3 {
			for out := range 3 {
				want := slices.ContainsFunc(walk.Outs(p, s, in), func(x api.Step) bool { return x.To == out })
				if goes(p.Sections[s], in, out) != want {
					t.Errorf("section %d, from %d to %d: %t", s, in, out, !want)
				}
			}
		}
	}
}

// What is handed in isn't changed, answers are new, nothing is kept, and many may call at once.

// Other numbers of a plan say nothing of what is near.
func TestOtherNumbersSayNothing(t *testing.T) {
	p := build(t, station)
	for _, n := range []int{0, 1, endless} {
		p.Overlap, p.Settle, p.Hold = n, n, n
		answers(t, p, 1, []int{2, 4, 7}, 21000)
	}
}

func TestWhatIsHandedInStaysAsItWas(t *testing.T) {
	p := build(t, station)
	p.Sections = slices.Grow(slices.Clone(p.Sections), 4)
	p.Signals = slices.Grow(slices.Clone(p.Signals), 4)
	sections, signals := slices.Clone(p.Sections[:cap(p.Sections)]), slices.Clone(p.Signals[:cap(p.Signals)])
	for i := range p.Signals {
		l, _ := near.Of(p, i)
		clear(l[:cap(l)])
	}
	if !slices.Equal(p.Sections[:cap(p.Sections)], sections) || !slices.Equal(p.Signals[:cap(p.Signals)], signals) {
		t.Error("a plan, or its spare room, was changed")
	}
}

func TestAnswersStandAlone(t *testing.T) {
	p := build(t, station)
	a, _ := near.Of(p, 1)
	b, _ := near.Of(p, 1)
	clear(a[:cap(a)])
	if !slices.Equal(b, []int{2, 4, 7}) {
		t.Error("two answers share their memory")
	}
	answers(t, p, 1, []int{2, 4, 7}, 21000)
}

func TestCallsHangOnTheirArgumentsAlone(t *testing.T) {
	p, q := build(t, station), build(t, station)
	q.Approach = 9000
	var all sync.WaitGroup
	for range 8 {
		all.Go(func() {
			for range 100 {
				answers(t, p, 1, []int{2, 4, 7}, 21000)
				answers(t, q, 0, []int{7}, 9000)
				answers(t, p, 8, nil, 0)
				answers(t, p, 0, []int{6, 7}, 17000)
			}
		})
	}
	all.Wait()
}
