package flow

import (
	"tint/api"
	"tint/code"
)

// Frame tells the types that locals and stack have ahead of an instruction. Room of the stack above Depth is Int, so that equal stacks are equal arrays.
type Frame struct {
	Reached bool
	Locals  [api.MaxLocals]int
	Depth   int
	Stack   [api.MaxStack]int
	wrong   bool
}

// pops: the types that an instruction pops, the top last (i: Int, r: Ref). What moves values of either type has a case of its own in the method after.
var pops = [api.Peek + 1]string{
	api.Halt:   "i",
	api.Add:    "ii",
	api.Sub:    "ii",
	api.Mul:    "ii",
	api.Div:    "ii",
	api.Less:   "ii",
	api.Get:    "r",
	api.Set:    "rr",
	api.Number: "r",
	api.Note:   "ri",
	api.Same:   "rr",
	api.Branch: "i",
	api.Out:    "i",
	api.Weak:   "r",
	api.Peek:   "r",
}

// pushes: the types that an instruction pushes.
var pushes = [api.Peek + 1]string{
	api.Byte:   "i",
	api.Add:    "i",
	api.Sub:    "i",
	api.Mul:    "i",
	api.Div:    "i",
	api.Less:   "i",
	api.Null:   "r",
	api.New:    "r",
	api.Get:    "r",
	api.Number: "i",
	api.Same:   "i",
	api.In:     "i",
	api.Weak:   "r",
	api.Peek:   "r",
}

// LocalTypes answers the types of the first count locals, as a fresh list.
func (f Frame) LocalTypes(count int) []int {
	var list []int
	for k := 0; k < count && k < len(f.Locals); k++ {
		list = append(list, f.Locals[k])
	}
	return list
}

// StackTypes answers the types of what lies on the stack, the top last, as a fresh list.
func (f Frame) StackTypes() []int {
	var list []int
	for k := 0; k < f.Depth && k < len(f.Stack); k++ {
		list = append(list, f.Stack[k])
	}
	return list
}

// after answers the frame behind an instruction, and whether the instruction may stand there at all.
func (f Frame) after(in code.Instruction) (Frame, bool) {
	switch in.Op {
	case api.Load:
		f.load(in.Operand)
	case api.Store:
		f.store(in.Operand)
	case api.Dup:
		v := f.pop()
		f.push(v)
		f.push(v)
	case api.Drop:
		f.pop()
	case api.Swap:
		w := f.pop()
		v := f.pop()
		f.push(w)
		f.push(v)
	default:
		f.popAll(in.Op)
		f.pushAll(in.Op)
	}
	return f, !f.wrong
}

func (f *Frame) push(kind int) {
	if f.Depth < 0 || f.Depth >= len(f.Stack) {
		f.wrong = true
		return
	}
	f.Stack[f.Depth] = kind
	f.Depth++
}

func (f *Frame) pop() int {
	if f.Depth < 1 || f.Depth > len(f.Stack) {
		f.wrong = true
		return api.Int
	}
	f.Depth--
	kind := f.Stack[f.Depth]
	f.Stack[f.Depth] = api.Int
	return kind
}

func (f *Frame) load(local int) {
	if local < 0 || local >= len(f.Locals) {
		f.wrong = true
		return
	}
	kind := f.Locals[local]
	if kind == api.Mixed {
		f.wrong = true
	}
	f.push(kind)
}

func (f *Frame) store(local int) {
	kind := f.pop()
	if local < 0 || local >= len(f.Locals) {
		f.wrong = true
		return
	}
	f.Locals[local] = kind
}

func (f *Frame) popAll(op int) {
	if op < 0 || op >= len(pops) {
		f.wrong = true
		return
	}
	kinds := pops[op]
	for k := len(kinds) - 1; k >= 0; k-- {
		found := f.pop()
		if found != typeOf(kinds[k]) {
			f.wrong = true
		}
	}
}

func (f *Frame) pushAll(op int) {
	if op < 0 || op >= len(pushes) {
		f.wrong = true
		return
	}
	kinds := pushes[op]
	for k := 0; k < len(kinds); k++ {
		f.push(typeOf(kinds[k]))
	}
}

func typeOf(letter byte) int {
	if letter == 'r' {
		return api.Ref
	}
	return api.Int
}
