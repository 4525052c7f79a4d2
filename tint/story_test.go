package tint_test

import (
	"slices"
	"strings"
	"testing"

	"tint/api"
	"tint/tint"
)

// story: a second reading of the document, for machines: it goes over the image's bytes as they are, and each value has the type that it was made with.
type story struct {
	t              *testing.T
	code           string
	points         map[int]api.Point
	place          int
	outcome, value int
	locals, stack  []api.Slot
	in, out        []int
	cells          []api.Cell
	phase, hand    int
	deeds          deeds
}

func begin(t *testing.T, x string, inputs []int, cells int) *story {
	points, _ := reference(x)
	s := &story{t: t, code: x[2:], points: map[int]api.Point{}, in: slices.Clone(inputs)}
	for _, p := range points {
		s.points[p.Place] = p
	}
	s.locals = make([]api.Slot, x[1])
	s.cells = slices.Repeat([]api.Cell{{A: -1, B: -1}}, cells)
	return s
}

// state: what State should answer. The types are those of Maps; what is held must be of that type.
func (s *story) state() api.State {
	t := s.t
	point := s.points[s.place]
	told := api.State{Outcome: s.outcome, Value: s.value, Place: s.place, Phase: s.phase, Hand: s.hand}
	if len(point.Locals) != len(s.locals) || len(point.Stack) != len(s.stack) {
		t.Fatalf("at place %d: %v and %v, by Maps %v", s.place, s.locals, s.stack, point)
	}
	for k, l := range s.locals {
		if point.Locals[k] == api.Mixed {
			l = api.Slot{Type: api.Mixed}
		} else if point.Locals[k] != l.Type {
			t.Fatalf("at place %d: local %d is %v, by Maps %v", s.place, k, l, point)
		}
		told.Locals = append(told.Locals, l)
	}
	for k, v := range s.stack {
		if point.Stack[k] != v.Type {
			t.Fatalf("at place %d: the stack is %v, by Maps %v", s.place, s.stack, point)
		}
		told.Stack = append(told.Stack, v)
	}
	return told
}

// trap: what awaits an instruction that wants a cell of a kind.
func (s *story) trap(r int, weak bool) int {
	if r == -1 {
		return api.TrapNull
	}
	if s.cells[r].Weak != weak {
		return api.TrapKind
	}
	return api.Running
}

func number(v int) []api.Slot { return []api.Slot{{Type: api.Int, V: v}} }

func refer(v int) []api.Slot { return []api.Slot{{Type: api.Ref, V: v}} }

func oneIf(holds bool) []api.Slot {
	if holds {
		return number(1)
	}
	return number(0)
}

// step: the next instruction; the answer is the outcome.
func (s *story) step() int {
	op := s.code[s.place]
	behind := s.place + 1
	n := 0
	if wide(op) {
		n = int(s.code[s.place+1])
		behind++
	}
	pops, _, _ := strings.Cut(effects[op], ">")
	cut := len(s.stack) - len(pops)
	a := append([]api.Slot{}, s.stack[cut:]...)
	a = append(a, api.Slot{}, api.Slot{}) // so that a[0] and a[1] always are
	push, end := s.result(op, n, a[0], a[1])
	if end != api.Running {
		s.outcome = end
		if end == api.Halted {
			s.value = a[0].V
		}
		return end
	}
	s.stack = append(slices.Clone(s.stack[:cut]), push...)
	s.place = behind
	if op == api.Jump || op == api.Branch && a[0].V != 0 {
		s.place = n
	}
	return api.Running
}

// result: what an instruction pushes that pops u and, above it, v; or how the machine ends.
func (s *story) result(op byte, n int, u, v api.Slot) ([]api.Slot, int) {
	switch op {
	case api.Halt:
		return nil, api.Halted
	case api.Byte:
		return number(int(int8(n))), 0
	case api.Add:
		return number(u.V + v.V), 0
	case api.Sub:
		return number(u.V - v.V), 0
	case api.Mul:
		return number(u.V * v.V), 0
	case api.Div:
		if v.V == 0 {
			return nil, api.TrapDiv
		}
		return number(u.V / v.V), 0
	case api.Less:
		return oneIf(u.V < v.V), 0
	case api.Load:
		return []api.Slot{s.locals[n]}, 0
	case api.Store:
		s.locals[n] = u
	case api.Dup:
		return []api.Slot{u, u}, 0
	case api.Swap:
		return []api.Slot{v, u}, 0
	case api.Null:
		return refer(-1), 0
	case api.Same:
		return oneIf(u == v), 0
	case api.In:
		if len(s.in) == 0 {
			return number(0), 0
		}
		first := s.in[0]
		s.in = s.in[1:]
		return number(first), 0
	case api.Out:
		s.out = append(s.out, u.V)
	case api.New:
		return s.taken(api.Cell{A: -1, B: -1})
	case api.Weak:
		return s.taken(api.Cell{Weak: true, A: u.V, B: -1})
	case api.Get, api.Set, api.Number, api.Note, api.Peek:
		end := s.trap(u.V, op == api.Peek)
		if end != api.Running {
			return nil, end
		}
		return s.touch(op, n, &s.cells[u.V], v.V), 0
	}
	return nil, 0
}

func (s *story) touch(op byte, n int, cell *api.Cell, v int) []api.Slot {
	side := []*int{&cell.A, &cell.B}[n&1]
	switch op {
	case api.Get:
		return refer(*side)
	case api.Set:
		*side = v
		if s.phase == api.Mark {
			white := count(s.cells, api.White)
			s.shade(v)
			s.deeds.bySet += white - count(s.cells, api.White)
		}
	case api.Number:
		return number(cell.Num)
	case api.Note:
		cell.Num = v
	case api.Peek:
		return refer(cell.A)
	}
	return nil
}

func sameState(a, b api.State) bool {
	return a.Outcome == b.Outcome && a.Value == b.Value && a.Place == b.Place && a.Phase == b.Phase && a.Hand == b.Hand && slices.Equal(a.Locals, b.Locals) && slices.Equal(a.Stack, b.Stack)
}

// compare: what the machine tells, against the story.
func compare(t *testing.T, x string, m *tint.Machine, s *story) {
	want := s.state()
	if got := m.State(); !sameState(got, want) {
		t.Errorf("P6: %x: State %+v, want %+v", x, got, want)
	}
	if got := m.Heap(); !slices.Equal(got, s.cells) {
		t.Errorf("P6: %x: Heap %+v, want %+v", x, got, s.cells)
	}
	if got := m.Output(); !slices.Equal(got, s.out) {
		t.Errorf("P6: %x: Output %v, want %v", x, got, s.out)
	}
}
