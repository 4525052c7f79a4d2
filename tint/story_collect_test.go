package tint_test

import (
	"slices"

	"tint/api"
)

// deeds: what the collector met with in a story, so that a test can tell whether it showed anything.
type deeds struct {
	bySet, late, forgot, kept, freed int    // cells that a Set shaded; roots found at the end of marking; weak cells that ceased to look, and that did not; cells freed
	forced                           [3]int // cells wanted when none was free, by the phase
	again                            int    // the round under way freed nothing, the next one did
	taken                            [4]int // White in Idle, Black in Mark, White and Black in Sweep
}

func (d *deeds) add(more deeds) {
	d.bySet += more.bySet
	d.late += more.late
	d.forgot += more.forgot
	d.kept += more.kept
	d.freed += more.freed
	d.again += more.again
	for k, n := range more.forced {
		d.forced[k] += n
	}
	for k, n := range more.taken {
		d.taken[k] += n
	}
}

// least: the smallest of all counts.
func (d *deeds) least() int {
	return min(d.bySet, d.late, d.forgot, d.kept, d.freed, d.again, slices.Min(d.forced[:]), slices.Min(d.taken[:]))
}

// roots: the references that are told.
func roots(told api.State) []int {
	var list []int
	for _, slot := range slices.Concat(told.Locals, told.Stack) {
		if slot.Type == api.Ref {
			list = append(list, slot.V)
		}
	}
	return list
}

// reachable: which cells are, by the document's own words.
func reachable(told api.State, cells []api.Cell) []bool {
	seen := make([]bool, len(cells))
	todo := roots(told)
	for len(todo) > 0 {
		r := todo[0]
		todo = todo[1:]
		if r == -1 || seen[r] {
			continue
		}
		seen[r] = true
		if !cells[r].Weak {
			todo = append(todo, cells[r].A, cells[r].B)
		}
	}
	return seen
}

// count: how many cells have a colour.
func count(cells []api.Cell, colour int) int {
	n := 0
	for _, cell := range cells {
		if cell.Colour == colour {
			n++
		}
	}
	return n
}

func (s *story) shade(list ...int) {
	for _, r := range list {
		if r != -1 && s.cells[r].Colour == api.White {
			s.cells[r].Colour = api.Grey
		}
	}
}

// unit: one unit of the collector, by P9.
func (s *story) unit() {
	all := roots(s.state())
	grey := slices.IndexFunc(s.cells, func(c api.Cell) bool { return c.Colour == api.Grey })
	switch {
	case s.phase == api.Idle:
		s.shade(all...)
		s.phase = api.Mark
	case s.phase == api.Mark && grey >= 0:
		if !s.cells[grey].Weak {
			s.shade(s.cells[grey].A, s.cells[grey].B)
		}
		s.cells[grey].Colour = api.Black
	case s.phase == api.Mark:
		s.shade(all...)
		if n := count(s.cells, api.Grey); n > 0 {
			s.deeds.late += n
			return
		}
		for k, c := range s.cells {
			if c.Colour == api.Free || !c.Weak || c.A == -1 {
				continue
			}
			if s.cells[c.A].Colour == api.White {
				s.cells[k].A = -1
				s.deeds.forgot++
			} else {
				s.deeds.kept++
			}
		}
		s.phase = api.Sweep
	case s.phase == api.Sweep:
		switch s.cells[s.hand].Colour {
		case api.White:
			s.cells[s.hand] = api.Cell{A: -1, B: -1}
			s.deeds.freed++
		case api.Black:
			s.cells[s.hand].Colour = api.White
		}
		s.hand++
		if s.hand == len(s.cells) {
			s.phase = api.Idle
			s.hand = 0
		}
	}
}

// taken: a cell is taken, by P8.
func (s *story) taken(cell api.Cell) ([]api.Slot, int) {
	begun := s.phase != api.Idle
	if count(s.cells, api.Free) == 0 {
		s.deeds.forced[s.phase]++
		for s.phase != api.Idle {
			s.unit()
		}
	}
	if count(s.cells, api.Free) == 0 {
		s.unit()
		for s.phase != api.Idle {
			s.unit()
		}
		if begun && count(s.cells, api.Free) > 0 {
			s.deeds.again++
		}
	}
	k := slices.IndexFunc(s.cells, func(c api.Cell) bool { return c.Colour == api.Free })
	if k == -1 {
		return nil, api.Full
	}
	cell.Colour = api.White
	if s.phase == api.Mark || s.phase == api.Sweep && k >= s.hand {
		cell.Colour = api.Black
	}
	s.cells[k] = cell
	kind := s.phase
	if s.phase == api.Sweep && cell.Colour == api.Black {
		kind++
	}
	s.deeds.taken[kind]++
	return refer(k), 0
}
