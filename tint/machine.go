package tint

import (
	"tint/api"
	"tint/code"
	"tint/flow"
	"tint/heap"
)

// Machine is a machine with its heap.
type Machine struct {
	program code.Program
	frames  []flow.Frame
	inputs  []int // those that are left
	output  []int
	outcome int
	value   int
	now     standing
	heap    heap.Heap
}

// New makes a machine (P5).
func New(image string, inputs []int, cells int) (*Machine, api.Errno) {
	program, frames, err := load(image)
	if err != api.OK {
		return nil, err
	}
	if cells < 1 || cells > api.MaxCells {
		return nil, api.ErrCells
	}
	if len(inputs) > api.MaxInputs {
		return nil, api.ErrInputs
	}
	kept := copied(inputs)
	return &Machine{program: program, frames: frames, inputs: kept, heap: heap.New(cells)}, api.OK
}

// State tells how the machine stands (P6).
func (m *Machine) State() api.State {
	state := api.State{Outcome: m.outcome, Value: m.value}
	state.Phase = m.heap.Phase()
	state.Hand = m.heap.Hand()
	k := m.now.next
	if k < 0 || k >= len(m.program.List) || k >= len(m.frames) {
		return state
	}
	state.Place = m.program.List[k].Place
	types := m.frames[k].LocalTypes(m.program.Locals)
	state.Locals = slots(types, m.now.locals[:])
	types = m.frames[k].StackTypes()
	state.Stack = slots(types, m.now.stack[:])
	return state
}

// Heap tells of all cells (P6).
func (m *Machine) Heap() []api.Cell {
	return m.heap.Cells()
}

// Output tells what came out so far (P6).
func (m *Machine) Output() []int {
	return copied(m.output)
}

// slots lays types and what is held together. What a Mixed local holds is not told: it hangs on the way that was taken.
func slots(types, held []int) []api.Slot {
	var list []api.Slot
	for k, kind := range types {
		slot := api.Slot{Type: kind}
		if kind != api.Mixed && k < len(held) {
			slot.V = held[k]
		}
		list = append(list, slot)
	}
	return list
}

func copied(list []int) []int {
	var fresh []int
	for _, v := range list {
		fresh = append(fresh, v)
	}
	return fresh
}
