package plan

import (
	"cmp"
	"slices"

	"leverman/api"
	"leverman/item"
)

const (
	// nowhere is where an end leads that is stopped, or that a plain section hasn't.
	nowhere = -1
	// open is where an end leads that is neither joined nor stopped yet.
	open = -2
)

// draft is a station as it is told: its sections and signals in the order of their lines, since the places by their names are known behind the last line only. The ends don't tell of signals yet.
type draft struct {
	told     [api.LineHold + 1]bool
	numbers  [api.LineHold + 1]int
	sections []api.Section
	signals  []api.Signal
}

// spot is an end of a draft's section.
type spot struct{ section, end int }

// add takes a line's item, or tells why it may not stand there.
func (d *draft) add(x api.Item) api.Errno {
	if !item.Right(x) {
		return api.ErrForm
	}
	switch x.Kind {
	case api.LineSection, api.LinePoint:
		return d.addSection(x)
	case api.LineJoin:
		return d.join(x.Ends)
	case api.LineBuffer:
		return d.stop(x.Ends[0])
	case api.LineSignal:
		return d.addSignal(x)
	}
	return d.addNumber(x)
}

func (d *draft) addNumber(x api.Item) api.Errno {
	// By a mark of its own, not by the number: one that is told as 0 is told, too.
	if d.told[x.Kind] {
		return api.ErrTwice
	}
	d.told[x.Kind] = true
	d.numbers[x.Kind] = x.N
	return api.OK
}

func (d *draft) addSection(x api.Item) api.Errno {
	if Find(d.sections, x.Name) >= 0 {
		return api.ErrTwice
	}
	if len(d.sections) == api.MaxSections {
		return api.ErrLarge
	}
	s := api.Section{Name: x.Name, Point: x.Kind == api.LinePoint, Length: x.N}
	for end := range s.Ends {
		s.Ends[end] = api.End{To: open, Signal: -1}
		if Letter(s.Point, end) == 0 {
			s.Ends[end].To = nowhere
		}
	}
	d.sections = append(d.sections, s)
	return api.OK
}

func (d *draft) join(ends [2]api.Tip) api.Errno {
	a, err := d.unused(ends[0])
	if err != api.OK {
		return err
	}
	b, err := d.unused(ends[1])
	if err != api.OK {
		return err
	}
	if a == b {
		return api.ErrUsed
	}
	d.lead(a, b.section, b.end)
	d.lead(b, a.section, a.end)
	return api.OK
}

func (d *draft) stop(x api.Tip) api.Errno {
	a, err := d.unused(x)
	if err != api.OK {
		return err
	}
	d.lead(a, nowhere, 0)
	return api.OK
}

func (d *draft) addSignal(x api.Item) api.Errno {
	if slices.ContainsFunc(d.signals, func(s api.Signal) bool { return s.Name == x.Name }) {
		return api.ErrTwice
	}
	a, err := d.spot(x.Ends[0])
	if err != api.OK {
		return err
	}
	if slices.ContainsFunc(d.signals, func(s api.Signal) bool { return stands(s) == a }) {
		return api.ErrTwice
	}
	if len(d.signals) == api.MaxSignals {
		return api.ErrLarge
	}
	d.signals = append(d.signals, api.Signal{Name: x.Name, Section: a.section, End: a.end})
	return api.OK
}

// check tells what a line's item lacks when all lines are told.
func (d *draft) check(x api.Item) api.Errno {
	switch x.Kind {
	case api.LineSection, api.LinePoint:
		s := d.sections[Find(d.sections, x.Name)]
		if slices.ContainsFunc(s.Ends[:], func(e api.End) bool { return e.To == open }) {
			return api.ErrOpen
		}
	case api.LineSignal:
		if a, _ := d.spot(x.Ends[0]); d.to(a) == nowhere {
			return api.ErrStop
		}
	}
	return api.OK
}

// spot gives the end that an item names.
func (d *draft) spot(x api.Tip) (spot, api.Errno) {
	i := Find(d.sections, x.Name)
	if i < 0 {
		return spot{}, api.ErrNone
	}
	s := d.sections[i]
	for end := range s.Ends {
		if Letter(s.Point, end) == x.Ends {
			return spot{i, end}, api.OK
		}
	}
	return spot{}, api.ErrEnd
}

// unused gives the end that an item names, if it is neither joined nor stopped.
func (d *draft) unused(x api.Tip) (spot, api.Errno) {
	a, err := d.spot(x)
	if err != api.OK {
		return spot{}, err
	}
	if d.to(a) != open {
		return spot{}, api.ErrUsed
	}
	return a, api.OK
}

func (d *draft) to(a spot) int { return d.sections[a.section].Ends[a.end].To }

func (d *draft) lead(a spot, to, at int) {
	d.sections[a.section].Ends[a.end] = api.End{To: to, At: at, Signal: -1}
}

func stands(s api.Signal) spot { return spot{s.Section, s.End} }

// plan gives a draft without a fault as the plan that it is.
func (d *draft) plan() api.Plan {
	p := api.Plan{
		Overlap:  d.numbers[api.LineOverlap],
		Approach: d.numbers[api.LineApproach],
		Settle:   d.numbers[api.LineSettle],
		Hold:     d.numbers[api.LineHold],
		Sections: slices.Clone(d.sections),
		Signals:  slices.Clone(d.signals),
	}
	slices.SortFunc(p.Sections, func(a, b api.Section) int { return cmp.Compare(a.Name, b.Name) })
	slices.SortFunc(p.Signals, func(a, b api.Signal) int { return cmp.Compare(a.Name, b.Name) })
	place := func(i int) int { return Find(p.Sections, d.sections[i].Name) }
	for i, s := range p.Sections {
		for end, x := range s.Ends {
			if x.To != nowhere {
				p.Sections[i].Ends[end].To = place(x.To)
			}
		}
	}
	for i, s := range p.Signals {
		at := place(s.Section)
		p.Signals[i].Section = at
		p.Sections[at].Ends[s.End].Signal = i
	}
	return p
}
