package tint_test

import (
	"slices"
	"testing"

	"tint/api"
	"tint/tint"
)

// tale: how far an image was followed, and what was met on the way.
type tale struct {
	steps   int
	outcome int
	done    [25]int // instructions that were done to their end, by kind
	mixed   int     // states with a Mixed local
	deeds   deeds
}

// along: an image is followed on a machine and in the story, and they are compared behind each call; ahead of step k the collector does units[k modulo the list's length] units. What the document says of all machines is looked at too.
func along(t *testing.T, x string, inputs []int, cells, steps int, units ...int) tale {
	t.Helper()
	m := machine(t, x, inputs, cells)
	s := begin(t, x, inputs, cells)
	compare(t, x, m, s)
	var seen tale
	for seen.steps < steps && s.outcome == api.Running && !t.Failed() {
		if len(units) > 0 {
			collectBoth(t, x, m, s, units[seen.steps%len(units)])
		}
		op := s.code[s.place]
		if stepBoth(t, x, m, s) == api.Running {
			seen.done[op]++
		}
		seen.steps++
		if slices.Contains(s.points[s.place].Locals, api.Mixed) {
			seen.mixed++
		}
	}
	seen.outcome = s.outcome
	if s.outcome != api.Running {
		over(t, x, m, s)
	}
	settle(t, x, m, s)
	seen.deeds = s.deeds
	return seen
}

func collectBoth(t *testing.T, x string, m *tint.Machine, s *story, units int) {
	before, cells := m.State(), m.Heap()
	for range units {
		s.unit()
	}
	got, err := m.Collect(units)
	if got != s.phase || err != api.OK {
		t.Errorf("P9: %x: Collect(%d) = %d, %d, want %d", x, units, got, err, s.phase)
	}
	compare(t, x, m, s)
	lawful(t, x, m)
	looking(t, x, before, cells, m)
}

func stepBoth(t *testing.T, x string, m *tint.Machine, s *story) int {
	before, cells := m.State(), m.Heap()
	op := s.code[s.place]
	want := s.step()
	got, err := m.Step()
	if got != want || err != api.OK {
		t.Errorf("P7: %x: at place %d Step = %d, %d, want %d", x, before.Place, got, err, want)
	}
	wants := op == api.New || op == api.Weak
	full := wants && !slices.Contains(reachable(before, cells), false)
	if (got == api.Full) != full {
		t.Errorf("P13: %x: at place %d Step = %d; all cells are reachable and one is wanted: %v", x, before.Place, got, full)
	}
	compare(t, x, m, s)
	lawful(t, x, m)
	looking(t, x, before, cells, m)
	return want
}

// lawful: P11, of what the machine tells.
func lawful(t *testing.T, x string, m *tint.Machine) {
	told, cells := m.State(), m.Heap()
	in := reachable(told, cells)
	dim := func(r int) bool { return r != -1 && (cells[r].Colour == api.White || cells[r].Colour == api.Free) }
	for k, c := range cells {
		good := !in[k] || c.Colour != api.Free
		switch told.Phase {
		case api.Idle:
			good = good && (c.Colour == api.Free || c.Colour == api.White) && told.Hand == 0
		case api.Mark:
			good = good && (c.Weak || c.Colour != api.Black || !dim(c.A) && !dim(c.B)) && told.Hand == 0
		case api.Sweep:
			good = good && c.Colour != api.Grey
			if k < told.Hand {
				good = good && (c.Colour == api.White || c.Colour == api.Free)
			} else if in[k] {
				good = good && c.Colour == api.Black
			}
		}
		if c.Colour == api.Free && c != (api.Cell{A: -1, B: -1}) || c.Weak && (c.B != -1 || c.Num != 0) {
			good = false
		}
		if !good {
			t.Errorf("P11: %x: cell %d: %+v in %+v, cells %+v", x, k, c, told, cells)
		}
	}
}

// looking: P15, from one time to the next.
func looking(t *testing.T, x string, before api.State, cells []api.Cell, m *tint.Machine) {
	behind := m.Heap()
	was, is := reachable(before, cells), reachable(m.State(), behind)
	for k, c := range cells {
		if !c.Weak || !was[k] || !is[k] || c.A == -1 || !was[c.A] || !is[c.A] {
			continue
		}
		if behind[k] != (api.Cell{Colour: behind[k].Colour, Weak: true, A: c.A, B: -1}) {
			t.Errorf("P15: %x: weak cell %d looked at %d, and is now %+v", x, k, c.A, behind[k])
		}
	}
}

// settle: P12, unit by unit: to Idle, and a round from there.
func settle(t *testing.T, x string, m *tint.Machine, s *story) {
	t.Helper()
	most := 2*len(s.cells) + 3
	for round := range 2 {
		taken := 0
		for !t.Failed() && (m.State().Phase != api.Idle || round == 1 && taken == 0) {
			collectBoth(t, x, m, s, 1)
			taken++
			if taken > most {
				t.Errorf("P12: %x: not Idle behind %d units", x, taken)
			}
		}
	}
	told, cells := m.State(), m.Heap()
	in := reachable(told, cells)
	for k, c := range cells {
		if in[k] == (c.Colour == api.Free) || c.Weak && c.A != -1 && !in[c.A] {
			t.Errorf("P12: %x: behind a round: cell %d: %+v, reachable: %v", x, k, c, in)
		}
	}
}

// over: steps behind the end answer ErrDone and change nothing.
func over(t *testing.T, x string, m *tint.Machine, s *story) {
	t.Helper()
	for range 2 {
		if got, err := m.Step(); got != 0 || err != api.ErrDone {
			t.Errorf("P7: %x: a step behind the end = %d, %d", x, got, err)
		}
		compare(t, x, m, s)
	}
}
