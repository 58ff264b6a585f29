package bitset_test

import (
	"maps"
	"math"
	"math/rand"
	"slices"
	"sync"
	"testing"

	"leverman/bitset"
)

const (
	full = math.MaxUint32
	high = 1 << 31 // the word that has the last bit only
)

// negatives are numbers below 0: some are one of a small set's in fewer bits.
var negatives = []int{math.MinInt, math.MinInt + 1, math.MinInt + 32, -1 << 32, -1<<32 + 1, -1 << 31, -256, -65, -64, -63, -33, -32, -31, -2, -1}

// beyond are numbers from 96 on, that no set of three words has a bit for: some are one of its in fewer bits.
var beyond = []int{96, 97, 127, 128, 255, 256, 257, 1 << 16, 1<<16 + 1, 1<<31 - 1, 1 << 31, 1<<31 + 1, 1<<32 - 1, 1 << 32, 1<<32 + 1, 1<<32 + 33, 1<<37 + 1, 1 << 62, math.MaxInt - 31, math.MaxInt - 1, math.MaxInt}

// strange are numbers that no set of three words has a bit for.
var strange = slices.Concat(negatives, beyond)

func words(l ...uint32) []uint32 { return l }

func fresh(t *testing.T, n int, want []uint32) {
	t.Helper()
	if got := bitset.New(n); !slices.Equal(got, want) {
		t.Errorf("New(%d) = %x, want %x", n, got, want)
	}
}

func has(t *testing.T, l []uint32, n int, want bool) {
	t.Helper()
	if got := bitset.Has(l, n); got != want {
		t.Errorf("Has(%x, %d) = %t, want %t", l, n, got, want)
	}
}

func with(t *testing.T, l []uint32, n int, want []uint32) {
	t.Helper()
	if got := bitset.With(l, n); !slices.Equal(got, want) {
		t.Errorf("With(%x, %d) = %x, want %x", l, n, got, want)
	}
}

func of(t *testing.T, n int, l []int, want []uint32) {
	t.Helper()
	if got := bitset.Of(n, l); !slices.Equal(got, want) {
		t.Errorf("Of(%d, %d) = %x, want %x", n, l, got, want)
	}
}

func meet(t *testing.T, a, b []uint32, want bool) {
	t.Helper()
	if got := bitset.Meet(a, b); got != want {
		t.Errorf("Meet(%x, %x) = %t, want %t", a, b, got, want)
	}
}

// either holds what is told of two sets, whichever is first.
func either(t *testing.T, a, b []uint32, want bool) {
	t.Helper()
	meet(t, a, b, want)
	meet(t, b, a, want)
}

func list(t *testing.T, l []uint32, want []int) {
	t.Helper()
	if got := bitset.List(l); !slices.Equal(got, want) {
		t.Errorf("List(%x) = %d, want %d", l, got, want)
	}
}

// P13.1: New.

func TestNewOfEdges(t *testing.T) {
	fresh(t, 0, nil)
	fresh(t, 1, words(0))
	fresh(t, 2, words(0))
	fresh(t, 31, words(0))
	fresh(t, 32, words(0))
	fresh(t, 33, words(0, 0))
	fresh(t, 40, words(0, 0))
	fresh(t, 63, words(0, 0))
	fresh(t, 64, words(0, 0))
	fresh(t, 65, words(0, 0, 0))
	fresh(t, 96, words(0, 0, 0))
	fresh(t, 97, words(0, 0, 0, 0))
}

func TestNewBelowOne(t *testing.T) {
	for n := -200; n < 1; n++ {
		fresh(t, n, nil)
	}
	for _, n := range negatives {
		fresh(t, n, nil)
	}
}

// One word more whenever the last one is full.
func TestNewHasAsFewWordsAsItTakes(t *testing.T) {
	var want []uint32
	for n := 1; n < 5000; n++ {
		if n > 32*len(want) {
			want = append(want, 0)
		}
		fresh(t, n, want)
	}
	for bit := 13; bit < 25; bit++ {
		for n := 1<<bit - 33; n < 1<<bit+34; n++ {
			l := bitset.New(n)
			if len(l)*32 < n || (len(l)-1)*32 >= n || slices.ContainsFunc(l, func(x uint32) bool { return x != 0 }) {
				t.Fatalf("New(%d) has %d words, or a number", n, len(l))
			}
		}
	}
}

// Numbers of more than 32 bits have bits, too.
func TestNewOfVeryMany(t *testing.T) {
	if got := len(bitset.New(1<<32 + 1)); got != 1<<27+1 {
		t.Errorf("New(2^32 + 1) has %d words, want 2^27 + 1", got)
	}
}

func TestNewHasNone(t *testing.T) {
	for n := range 200 {
		l := bitset.New(n)
		list(t, l, nil)
		for x := -40; x < 240; x++ {
			has(t, l, x, false)
		}
	}
}

// P13.1: Has.

func TestHasByHand(t *testing.T) {
	l := words(0b101, high, 0)
	for n := -200; n < 200; n++ {
		has(t, l, n, n == 0 || n == 2 || n == 63)
	}
	has(t, words(0, 2), 33, true)
	has(t, words(0, 2), 1, false)
	has(t, words(0, 2), 34, false)
	has(t, words(2), 33, false)
}

func TestHasOfEachBit(t *testing.T) {
	for place := range 3 {
		word := uint32(1)
		for bit := range 32 {
			l := words(0, 0, 0)
			l[place] = word
			for n := range 96 {
				has(t, l, n, n == 32*place+bit)
			}
			word *= 2
		}
	}
}

func TestHasOfEachBitThatIsMissing(t *testing.T) {
	for place := range 3 {
		word := uint32(1)
		for bit := range 32 {
			l := words(full, full, full)
			l[place] -= word
			for n := range 96 {
				has(t, l, n, n != 32*place+bit)
			}
			word *= 2
		}
	}
}

func TestHasOfNoSuchBit(t *testing.T) {
	for _, l := range [][]uint32{nil, {}, {full}, {full, full}, {full, full, full}} {
		for _, n := range strange {
			has(t, l, n, false)
		}
		for n := -200; n < 200; n++ {
			has(t, l, n, n >= 0 && n < 32*len(l))
		}
	}
}

// P13.1: With.

func TestWithByHand(t *testing.T) {
	l := words(0, 0)
	with(t, l, 0, words(1, 0))
	with(t, l, 1, words(2, 0))
	with(t, l, 31, words(high, 0))
	with(t, l, 32, words(0, 1))
	with(t, l, 33, words(0, 2))
	with(t, l, 63, words(0, high))
	with(t, l, 64, l)
	with(t, words(6), 0, words(7))
	with(t, words(6), 1, words(6))
	with(t, words(6), 3, words(14))
	with(t, words(0x80000001, 0, full), 32, words(0x80000001, 1, full))
	with(t, words(full, 0xfffffffd), 33, words(full, full))
}

// A set has the bits of its last word, whatever number it was made up to.
func TestWithUpToTheLastBit(t *testing.T) {
	for n := 33; n <= 64; n++ {
		with(t, bitset.New(n), 63, words(0, high))
		with(t, bitset.New(n), 64, words(0, 0))
	}
	with(t, bitset.New(1), 31, words(high))
	with(t, bitset.New(1), 32, words(0))
	with(t, bitset.New(0), 0, nil)
}

func TestWithNoSuchBit(t *testing.T) {
	for _, l := range [][]uint32{nil, {}, {0}, {full}, {5, 0}, {full, full}, {0, 0, 0}, {1, high, 2}} {
		for _, n := range strange {
			with(t, l, n, l)
		}
		for n := -200; n < 0; n++ {
			with(t, l, n, l)
		}
		for n := 32 * len(l); n < 200; n++ {
			with(t, l, n, l)
		}
	}
}

// What is in it already stays as it is.
func TestWithOnceMore(t *testing.T) {
	for n := range 96 {
		l := bitset.With(words(0x5a5a5a5a, 0, full), n)
		with(t, l, n, l)
		with(t, words(full, full, full), n, words(full, full, full))
	}
}

// P13.1: Of.

func TestOfByHand(t *testing.T) {
	of(t, 40, []int{33}, words(0, 2))
	of(t, 40, []int{33, 2, 2, 40, -1}, words(4, 2))
	of(t, 40, []int{2, 33}, words(4, 2))
	of(t, 40, []int{39, 0, 31, 32}, words(0x80000001, 0x81))
	of(t, 40, nil, words(0, 0))
	of(t, 40, []int{}, words(0, 0))
	of(t, 32, []int{31}, words(high))
	of(t, 1, []int{0}, words(1))
	of(t, 3, []int{0, 1, 2, 3, 4}, words(7))
}

// Numbers from n on aren't in it, though the last word has bits for some of them.
func TestOfNumbersFromItsEndOn(t *testing.T) {
	of(t, 33, []int{40, 32}, words(0, 1))
	of(t, 33, []int{33, 63, 64}, words(0, 0))
	of(t, 32, []int{32, 33}, words(0))
	of(t, 1, []int{1, 31, 32}, words(0))
	all := make([]int, 300)
	for x := range all {
		all[x] = x - 100
	}
	for n := range 200 {
		l := bitset.Of(n, all)
		if len(l) != len(bitset.New(n)) {
			t.Errorf("Of(%d) has %d words", n, len(l))
		}
		for x := -100; x < 300; x++ {
			has(t, l, x, x >= 0 && x < n)
		}
	}
}

func TestOfStrangeNumbers(t *testing.T) {
	for _, n := range []int{1, 31, 32, 33, 64, 65, 96} {
		of(t, n, strange, bitset.New(n))
		l := slices.Concat(strange, []int{0}, strange)
		of(t, n, l, bitset.With(bitset.New(n), 0))
	}
}

func TestOfNoBits(t *testing.T) {
	for _, n := range append([]int{0}, negatives...) {
		of(t, n, nil, nil)
		of(t, n, []int{0, 1, 31, 32, -1, n, math.MinInt, math.MaxInt}, nil)
	}
}

// P13.1: Meet.

func TestMeetByHand(t *testing.T) {
	meet(t, words(0, 2), words(4, 2), true)
	either(t, words(0, 2), words(2, 1), false)
	either(t, words(1), words(1), true)
	either(t, words(1), words(2), false)
	either(t, words(3), words(6), true)
	either(t, words(high), words(high), true)
	either(t, words(high), words(1), false)
	either(t, words(high), words(full), true)
	either(t, words(high), words(full-high), false)
	either(t, words(0x55555555, 0xaaaaaaaa), words(0xaaaaaaaa, 0x55555555), false)
	either(t, words(1, 2, 4), words(6, 1, 4), true)
	either(t, words(1, 2, 4), words(6, 2, 0), true)
	either(t, words(1, 2, 4), words(5, 0, 0), true)
}

func TestMeetOfUnlikeLengths(t *testing.T) {
	either(t, words(0, 1), words(1), false)
	either(t, words(1, full), words(2), false)
	either(t, words(1, full), words(1), true)
	either(t, words(1, 2, full), words(2, 2), true)
	either(t, words(0, 0, full), words(full, full), false)
	for _, l := range [][]uint32{nil, {}, {0}, {0, 0, 0}} {
		either(t, l, nil, false)
		either(t, l, words(full, full), false)
		either(t, l, words(full, full, full, full), false)
		either(t, l, l, false)
	}
}

func TestMeetOfEachTwoBits(t *testing.T) {
	for n := range 96 {
		a := bitset.With(bitset.New(96), n)
		for x := range 96 {
			b := bitset.With(bitset.New(x+1), x)
			either(t, a, b, n == x)
		}
		either(t, a, words(full, full, full), true)
	}
}

// P13.1: List.

func TestListByHand(t *testing.T) {
	list(t, nil, nil)
	list(t, []uint32{}, nil)
	list(t, words(0, 0, 0), nil)
	list(t, words(0, 2), []int{33})
	list(t, words(4, 2), []int{2, 33})
	list(t, words(1), []int{0})
	list(t, words(high), []int{31})
	list(t, words(0x80000001, 0, 0x80000001, 0), []int{0, 31, 64, 95})
	list(t, words(0, 0, 0b1101), []int{64, 66, 67})
}

func TestListOfFullWords(t *testing.T) {
	var want []int
	var l []uint32
	for n := range 320 {
		want = append(want, n)
		if n%32 == 31 {
			l = append(l, full)
			list(t, l, want)
		}
	}
}

// The bits of the last word count, whatever number the set was made up to.
func TestListUpToTheLastBit(t *testing.T) {
	for n := range 96 {
		list(t, bitset.With(bitset.New(65), n), []int{n})
	}
}

// P13.2: a set of numbers has just these.

// holds holds that a set has just these numbers, by all that tells of it.
func holds(t *testing.T, l []uint32, want map[int]bool) {
	t.Helper()
	list(t, l, slices.Sorted(maps.Keys(want)))
	for n := range 32*len(l) + 40 {
		has(t, l, n, want[n])
		either(t, l, bitset.Of(n+1, []int{n}), want[n])
	}
}

// chosen gives the numbers of a list that it has a bit for in a number of as many bits.
func chosen(all []int, mask int) ([]int, map[int]bool) {
	var l []int
	m := map[int]bool{}
	for i, n := range all {
		if mask>>i&1 == 1 {
			l = append(l, n)
			m[n] = true
		}
	}
	return l, m
}

// All sets of eight numbers about the words' edges, and each two of them.
func TestAllSetsAboutTheEdges(t *testing.T) {
	edges := []int{0, 1, 30, 31, 32, 33, 63, 64}
	for i := range 256 {
		l, m := chosen(edges, i)
		a := bitset.Of(65, l)
		holds(t, a, m)
		for j := range 256 {
			k, _ := chosen(edges, j)
			meet(t, a, bitset.Of(65, k), i&j != 0)
		}
		if t.Failed() {
			return
		}
	}
}

// All sets of the first numbers, in sets of any size.
func TestAllSmallSets(t *testing.T) {
	for n := range 9 {
		for mask := range 1 << n {
			var l []int
			for x := range n {
				if mask>>x&1 == 1 {
					l = append(l, x)
				}
			}
			if n == 0 {
				of(t, n, l, nil)
				continue
			}
			of(t, n, l, words(uint32(mask)))
			list(t, words(uint32(mask)), l)
		}
	}
}

// drawn gives numbers about a set up to n, some of them outside it, some more than once, and those that it has.
func drawn(r *rand.Rand, n int) ([]int, map[int]bool) {
	var l []int
	m := map[int]bool{}
	for range r.Intn(2*n + 2) {
		x := r.Intn(n+80) - 40
		l = append(l, x)
		if x >= 0 && x < n {
			m[x] = true
		}
	}
	return l, m
}

func TestDrawnSets(t *testing.T) {
	r := rand.New(rand.NewSource(1))
	for range 3000 {
		n := r.Intn(150)
		l, m := drawn(r, n)
		set := bitset.Of(n, l)
		if len(set) != len(bitset.New(n)) {
			t.Errorf("Of(%d, %d) has %d words", n, l, len(set))
		}
		holds(t, set, m)
		// put in one behind the other, in another order, they make the same set
		one := bitset.New(n)
		r.Shuffle(len(l), func(i, j int) { l[i], l[j] = l[j], l[i] })
		for _, x := range l {
			if m[x] {
				one = bitset.With(one, x)
			}
		}
		if !slices.Equal(one, set) {
			t.Errorf("%d, put in one behind the other: %x, want %x", l, one, set)
		}
		of(t, n, bitset.List(set), set)
		if t.Failed() {
			return
		}
	}
}

func TestDrawnSetsMeet(t *testing.T) {
	r := rand.New(rand.NewSource(2))
	yes := 0
	for range 6000 {
		n, k := r.Intn(150), r.Intn(150)
		l, m := drawn(r, n)
		j, o := drawn(r, k)
		l, j = l[:min(len(l), r.Intn(20))], j[:min(len(j), r.Intn(20))]
		want := false
		for _, x := range l {
			want = want || m[x] && o[x] && slices.Contains(j, x)
		}
		either(t, bitset.Of(n, l), bitset.Of(k, j), want)
		if want {
			yes++
		}
	}
	if yes < 500 || yes > 5500 {
		t.Errorf("%d of 6000 meet", yes)
	}
}

// Any words are a set.
func TestDrawnWords(t *testing.T) {
	r := rand.New(rand.NewSource(3))
	for range 2000 {
		l := make([]uint32, r.Intn(6))
		m := map[int]bool{}
		for i := range l {
			l[i] = r.Uint32() & r.Uint32()
			rest := l[i]
			for bit := range 32 {
				if rest%2 == 1 {
					m[32*i+bit] = true
				}
				rest /= 2
			}
		}
		holds(t, l, m)
		of(t, 32*len(l), bitset.List(l), l)
		n := r.Intn(220) - 20
		more := bitset.With(l, n)
		if len(more) != len(l) {
			t.Errorf("With(%x, %d) has %d words", l, n, len(more))
		}
		if n >= 0 && n < 32*len(l) {
			m[n] = true
		}
		holds(t, more, m)
		if t.Failed() {
			return
		}
	}
}

// A set far greater than any of a station.
func TestGreatSet(t *testing.T) {
	const n = 200000
	var l []int
	m := map[int]bool{}
	for x := 3; x < n; x += 1 + x%97 {
		l = append(l, x)
		m[x] = true
	}
	set := bitset.Of(n, l)
	list(t, set, l)
	for x := range n + 40 {
		if bitset.Has(set, x) != m[x] {
			t.Fatalf("Has(.., %d) = %t", x, !m[x])
		}
	}
	last := bitset.With(bitset.New(n), n-1)
	list(t, last, []int{n - 1})
	either(t, set, last, m[n-1])
	either(t, bitset.With(set, n-1), last, true)
}

// What is handed in isn't changed, answers are new, nothing is kept, and many may call at once.

// spare gives words with room behind them, that is filled.
func spare(l ...uint32) []uint32 {
	n := len(l)
	l = append(slices.Clone(l), full, full, full, full)
	return l[:n:cap(l)]
}

// What lies in spare room isn't of the set.
func TestSpareRoomSaysNothing(t *testing.T) {
	for _, l := range [][]uint32{spare(), spare(0), spare(0, 0)} {
		for n := range 200 {
			has(t, l, n, false)
		}
		list(t, l, nil)
		either(t, l, l, false)
		either(t, l, spare(full, full, full), false)
		with(t, l, 32*len(l), make([]uint32, len(l)))
		with(t, l, 32*len(l)+1, make([]uint32, len(l)))
	}
	numbers := []int{3, 4, 5}
	of(t, 40, numbers[:1], words(8, 0))
}

func TestWhatIsHandedInStaysAsItWas(t *testing.T) {
	for n := -1; n < 100; n++ {
		l := spare(0x12345678, 0, full)
		all := slices.Clone(l[:cap(l)])
		got := bitset.With(l, n)
		bitset.Has(l, n)
		bitset.Meet(l, got)
		bitset.Meet(got, l)
		bitset.List(l)
		if !slices.Equal(l[:cap(l)], all) {
			t.Errorf("a set, or its spare room, was changed by %d", n)
		}
	}
	l := []int{40, 7, 7, -1, 7, 3, 99, 5, 0}
	kept := slices.Clone(l)
	bitset.Of(40, l[:7])
	if !slices.Equal(l, kept) {
		t.Error("a list, or its spare room, was changed")
	}
}

// Whoever changes an answer changes neither what was handed in nor another answer: of numbers that are in it already, and of those that it has no bit for, too.
func TestAnswersStandAlone(t *testing.T) {
	for _, n := range slices.Concat([]int{0, 1, 31, 32, 33, 63, 64, 95}, strange) {
		l := spare(0x12345678, 0, full)
		all := slices.Clone(l[:cap(l)])
		a, b := bitset.With(l, n), bitset.With(l, n)
		want := slices.Clone(b)
		clear(a[:cap(a)])
		if !slices.Equal(l[:cap(l)], all) || !slices.Equal(b, want) {
			t.Errorf("an answer for %d shares its memory", n)
		}
		clear(l[:cap(l)])
		if !slices.Equal(b, want) {
			t.Errorf("an answer for %d shares the memory of what was handed in", n)
		}
	}
	a := bitset.New(70)
	fill(a[:cap(a)], full)
	fresh(t, 70, words(0, 0, 0))
	b := bitset.Of(70, []int{1, 33})
	fill(b[:cap(b)], full)
	of(t, 70, []int{1, 33}, words(2, 2, 0))
	fresh(t, 70, words(0, 0, 0))
	c := bitset.List(words(5, 1))
	fill(c[:cap(c)], 77)
	list(t, words(5, 1), []int{0, 2, 32})
}

func fill[T any](l []T, x T) {
	for i := range l {
		l[i] = x
	}
}

// Sets that are made from one set don't reach into one another.
func TestWithFromOneSet(t *testing.T) {
	base := bitset.Of(64, []int{5})
	var all [][]uint32
	for n := range 64 {
		all = append(all, bitset.With(base, n))
	}
	for n, l := range all {
		holds(t, l, map[int]bool{5: true, n: true})
	}
	list(t, base, []int{5})
}

func TestCallsHangOnTheirArgumentsAlone(t *testing.T) {
	l := spare(5, high)
	numbers := []int{63, 0, 2, 64, -1}
	var all sync.WaitGroup
	for i := range 8 {
		all.Go(func() {
			for range 100 {
				fresh(t, 33+i, words(0, 0))
				has(t, l, 63, true)
				has(t, l, 1, false)
				with(t, l, 32, words(5, high+1))
				with(t, l, 64, l)
				of(t, 64, numbers, l)
				either(t, l, words(2, high), true)
				either(t, l, words(2, 1), false)
				list(t, l, []int{0, 2, 63})
			}
		})
	}
	all.Wait()
}
