package tint

import (
	"tint/api"
	"tint/code"
)

// Step does one instruction (P7, P8).
func (m *Machine) Step() (int, api.Errno) {
	k := m.now.next
	if m.outcome != api.Running || k < 0 || k >= len(m.program.List) {
		return 0, api.ErrDone
	}
	// Work on a copy: an instruction that ends the machine leaves all as it was ahead of it.
	after := m.now
	after.next = k + 1
	m.outcome = m.do(m.program.List[k], &after)
	switch m.outcome {
	case api.Running:
		m.now = after
	case api.Halted:
		m.value = after.pop()
	}
	return m.outcome, api.OK
}

// do does an instruction and answers the outcome. Nothing but the copy is changed ahead of what can end the machine.
func (m *Machine) do(in code.Instruction, after *standing) int {
	switch in.Op {
	case api.Halt:
		return api.Halted
	case api.Add, api.Sub, api.Mul, api.Div, api.Less:
		return after.reckon(in.Op)
	case api.New, api.Weak:
		return m.take(in.Op, after)
	case api.Get, api.Number, api.Peek:
		return m.read(in, after)
	case api.Set, api.Note:
		return m.write(in, after)
	case api.In:
		i := m.input()
		after.push(i)
	case api.Out:
		i := after.pop()
		m.output = append(m.output, i)
	default:
		after.move(in)
	}
	return api.Running
}

// take does the instructions that take a cell. What Weak pops is a root while room is made, for the machine itself still stands ahead of the instruction.
func (m *Machine) take(op int, after *standing) int {
	roots := m.roots()
	m.heap.MakeRoom(roots)
	var cell int
	var found bool
	if op == api.Weak {
		r := after.pop()
		cell, found = m.heap.TakeWeak(r)
	} else {
		cell, found = m.heap.TakePlain()
	}
	if !found {
		return api.Full
	}
	after.push(cell)
	return api.Running
}

// read does the instructions that push what a cell tells.
func (m *Machine) read(in code.Instruction, after *standing) int {
	r := after.pop()
	var v, outcome int
	switch in.Op {
	case api.Get:
		v, outcome = m.heap.Get(r, in.Operand)
	case api.Number:
		v, outcome = m.heap.Number(r)
	case api.Peek:
		v, outcome = m.heap.Peek(r)
	}
	after.push(v)
	return outcome
}

// write does the instructions that change a cell.
func (m *Machine) write(in code.Instruction, after *standing) int {
	v := after.pop()
	r := after.pop()
	if in.Op == api.Set {
		return m.heap.Set(r, in.Operand, v)
	}
	return m.heap.Note(r, v)
}

// input answers the next input, and 0 if there is none left.
func (m *Machine) input() int {
	if len(m.inputs) == 0 {
		return 0
	}
	i := m.inputs[0]
	m.inputs = m.inputs[1:]
	return i
}
