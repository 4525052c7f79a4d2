// Package code reads images: it parts their bytes into instructions.
package code

import "tint/api"

// headBytes is how many bytes of an image stand ahead of its code.
const headBytes = 2

// Instruction is one instruction of a program. Operand is 0 where there is none; Target is the index of the instruction that a Jump or Branch names, else 0.
type Instruction struct {
	Place   int
	Op      int
	Operand int
	Target  int
}

// Program is an image, read: how many locals it has, and its instructions in their order.
type Program struct {
	Locals int
	List   []Instruction
}

// Read answers the program of an image, or ErrShape, ErrCode, ErrJump or ErrEnd. It does not look at types.
func Read(image string) (Program, api.Errno) {
	if !shaped(image) {
		return Program{}, api.ErrShape
	}
	locals := int(image[1])
	list, split := instructions(image[headBytes:], locals)
	if !split {
		return Program{}, api.ErrCode
	}
	aimed, found := withTargets(list)
	if !found {
		return Program{}, api.ErrJump
	}
	if !endsWell(aimed) {
		return Program{}, api.ErrEnd
	}
	return Program{Locals: locals, List: aimed}, api.OK
}

func shaped(image string) bool {
	if len(image) <= headBytes || len(image) > headBytes+api.MaxCode {
		return false
	}
	return image[0] == api.First && image[1] <= api.MaxLocals
}

func instructions(code string, locals int) ([]Instruction, bool) {
	var list []Instruction
	place := 0
	for place < len(code) {
		op := int(code[place])
		if op > api.Peek {
			return nil, false
		}
		next := Instruction{Place: place, Op: op}
		place++
		if hasOperand(op) {
			if place >= len(code) {
				return nil, false
			}
			next.Operand = int(code[place])
			place++
		}
		if !operandFits(next, locals) {
			return nil, false
		}
		list = append(list, next)
	}
	return list, true
}

func hasOperand(op int) bool {
	switch op {
	case api.Byte, api.Load, api.Store, api.Get, api.Set, api.Jump, api.Branch:
		return true
	}
	return false
}

// operandFits leaves the operands of jumps alone: a wrong one is another error, and one that is told later.
func operandFits(in Instruction, locals int) bool {
	switch in.Op {
	case api.Load, api.Store:
		return in.Operand < locals
	case api.Get, api.Set:
		return in.Operand <= 1
	}
	return true
}

func withTargets(list []Instruction) ([]Instruction, bool) {
	var aimed []Instruction
	for _, in := range list {
		if in.Op == api.Jump || in.Op == api.Branch {
			target := indexOf(list, in.Operand)
			if target < 0 {
				return nil, false
			}
			in.Target = target
		}
		aimed = append(aimed, in)
	}
	return aimed, true
}

// indexOf answers -1 if no instruction begins at the place.
func indexOf(list []Instruction, place int) int {
	for k, in := range list {
		if in.Place == place {
			return k
		}
	}
	return -1
}

func endsWell(list []Instruction) bool {
	if len(list) == 0 {
		return false
	}
	last := list[len(list)-1].Op
	return last == api.Halt || last == api.Jump
}
