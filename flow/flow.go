// Package flow follows the types of locals and stack along all ways through a program.
package flow

import (
	"tint/api"
	"tint/code"
)

// walk is the work on one program: what is known so far of each instruction.
type walk struct {
	list    []code.Instruction
	frames  []Frame
	changed bool
}

// Frames answers a frame for each instruction of a program, and whether the program is well typed; if not, there are no frames.
func Frames(p code.Program) ([]Frame, bool) {
	w := walk{list: p.List, frames: make([]Frame, len(p.List))}
	// The zero frame is the start: all locals Int, the stack empty.
	if !w.reach(0, Frame{}) {
		return nil, false
	}
	if !w.settle() {
		return nil, false
	}
	return w.frames, true
}

// settle goes over the program until nothing new is learnt. That ends: a frame changes when it is first reached and when a local becomes Mixed, and never back.
//
// No more is called wrong than is: as long as every stack agrees, an instruction leaves each local alone or gives it one type whatever the way was. So each type that a frame tells is found on some way that leads there.
func (w *walk) settle() bool {
	for w.changed {
		w.changed = false
		for k := range w.list {
			if !w.pass(k) {
				return false
			}
		}
	}
	return true
}

// pass hands what is known ahead of instruction k on to its next ones, and tells whether all is well typed there.
func (w *walk) pass(k int) bool {
	if k < 0 || k >= len(w.list) || k >= len(w.frames) {
		return false
	}
	ahead := w.frames[k]
	if !ahead.Reached {
		return true
	}
	in := w.list[k]
	behind, good := ahead.after(in)
	if !good {
		return false
	}
	switch in.Op {
	case api.Halt:
		return true
	case api.Jump:
		return w.reach(in.Target, behind)
	case api.Branch:
		if !w.reach(in.Target, behind) {
			return false
		}
	}
	return w.reach(k+1, behind)
}

// reach adds a way to those that are known to lead to instruction k, and tells whether its stack is the same as theirs.
func (w *walk) reach(k int, way Frame) bool {
	if k < 0 || k >= len(w.frames) {
		return false
	}
	known := w.frames[k]
	way.Reached = true
	if known.Reached {
		if known.Depth != way.Depth || known.Stack != way.Stack {
			return false
		}
		way.Locals = joined(known.Locals, way.Locals)
	}
	if !known.Reached || known.Locals != way.Locals {
		w.frames[k] = way
		w.changed = true
	}
	return true
}

func joined(a, b [api.MaxLocals]int) [api.MaxLocals]int {
	for k := range a {
		if a[k] != b[k] {
			a[k] = api.Mixed
		}
	}
	return a
}
