package example

import (
	"slices"
	"strconv"
)

// Layout is a station that is laid piece by piece. Its sections are 5 long; ends that aren't joined are stopped.
type Layout struct {
	sections, rest string
	tips, joined   []string
}

// Text gives the station's text.
func (x *Layout) Text() string {
	stops := ""
	for _, tip := range x.tips {
		if !slices.Contains(x.joined, tip) {
			stops += "buffer " + tip + "\n"
		}
	}
	return x.sections + stops + x.rest
}

// Plain lays plain sections.
func (x *Layout) Plain(names ...string) {
	for _, name := range names {
		x.sections += "section " + name + " 5\n"
		x.tips = append(x.tips, name+".a", name+".b")
	}
}

// Point lays points.
func (x *Layout) Point(names ...string) {
	for _, name := range names {
		x.sections += "point " + name + " 5\n"
		x.tips = append(x.tips, name+".t", name+".n", name+".r")
	}
}

// Join joins two ends.
func (x *Layout) Join(a, b string) {
	x.rest += "join " + a + " " + b + "\n"
	x.joined = append(x.joined, a, b)
}

// Post lays a signal at an end.
func (x *Layout) Post(name, tip string) { x.rest += "signal " + name + " " + tip + "\n" }

// Row joins so many new plain sections one behind the other, from an end on, and gives the last one's far end.
func (x *Layout) Row(from string, n int) string {
	for range n {
		name := x.fresh("x")
		x.Plain(name)
		x.Join(from, name+".a")
		from = name + ".b"
	}
	return from
}

// Diamonds joins so many pairs of new points, leg to leg, one behind the other, from an end on, and gives the last one's toe.
func (x *Layout) Diamonds(from string, n int) string {
	for range n {
		p, q := x.fresh("p"), x.fresh("q")
		x.Point(p, q)
		x.Join(from, p+".t")
		x.Join(p+".n", q+".n")
		x.Join(p+".r", q+".r")
		from = q + ".t"
	}
	return from
}

// Fork joins a new point, by its toe, and gives its legs.
func (x *Layout) Fork(from string) (normal, reverse string) {
	name := x.fresh("f")
	x.Point(name)
	x.Join(from, name+".t")
	return name + ".n", name + ".r"
}

// Ring joins a new point whose legs are joined, by its toe: a search that enters it turns back twice.
func (x *Layout) Ring(from string) { x.Join(x.Fork(from)) }

// fresh gives a name that no section laid so far has, if those named otherwise than by it are named without digits.
func (x *Layout) fresh(letter string) string { return letter + strconv.Itoa(len(x.tips)) }

// Drawn gives the text of a station of so many points and plain sections, with so many pairs of their ends joined, and a signal at each of so many of these, as draw has it, which gives a number from 0 on, below the one handed in.
func Drawn(draw func(int) int, points, plains, pairs, signals int) string {
	text := ""
	var tips []string
	for i, n := range shuffled(draw, points+plains) {
		name, word, letters := "s"+strconv.Itoa(n), "section ", "ab"
		if i < points {
			word, letters = "point ", "tnr"
		}
		text += word + name + " 5\n"
		for _, letter := range letters {
			tips = append(tips, name+"."+string(letter))
		}
	}
	at := shuffled(draw, len(tips))
	cut := min(max(0, 2*pairs), len(tips)/2*2)
	for i := 0; i < cut; i += 2 {
		text += "join " + tips[at[i]] + " " + tips[at[i+1]] + "\n"
	}
	for _, i := range at[cut:] {
		text += "buffer " + tips[i] + "\n"
	}
	for i, j := range shuffled(draw, cut)[:min(signals, cut)] {
		text += "signal " + string(rune('A'+i)) + " " + tips[at[j]] + "\n"
	}
	return text
}

// shuffled gives the numbers from 0 on, below n, in an order that is drawn.
func shuffled(draw func(int) int, n int) []int {
	l := make([]int, n)
	for i := range l {
		j := draw(i + 1)
		l[i] = l[j]
		l[j] = i
	}
	return l
}
