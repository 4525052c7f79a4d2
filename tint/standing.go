package tint

import (
	"tint/api"
	"tint/code"
)

// standing is what an instruction finds and leaves behind, but for the heap and what goes in and out. It has no pointers, so that a copy can be worked on and thrown away.
type standing struct {
	next   int // the index of the next instruction
	locals [api.MaxLocals]int
	depth  int
	stack  [api.MaxStack]int
}

func (s *standing) push(v int) {
	if s.depth < 0 || s.depth >= len(s.stack) {
		return
	}
	s.stack[s.depth] = v
	s.depth++
}

func (s *standing) pop() int {
	if s.depth < 1 || s.depth > len(s.stack) {
		return 0
	}
	s.depth--
	return s.stack[s.depth]
}

func (s *standing) load(local int) {
	if local >= 0 && local < len(s.locals) {
		s.push(s.locals[local])
	}
}

func (s *standing) store(local int) {
	v := s.pop()
	if local >= 0 && local < len(s.locals) {
		s.locals[local] = v
	}
}

// move does the instructions that need nothing but locals and stack, and that no trap awaits.
func (s *standing) move(in code.Instruction) {
	switch in.Op {
	case api.Byte:
		s.push(signed(in.Operand))
	case api.Load:
		s.load(in.Operand)
	case api.Store:
		s.store(in.Operand)
	case api.Dup:
		v := s.pop()
		s.push(v)
		s.push(v)
	case api.Drop:
		s.pop()
	case api.Swap:
		w := s.pop()
		v := s.pop()
		s.push(w)
		s.push(v)
	case api.Null:
		s.push(api.None)
	case api.Same:
		right := s.pop()
		left := s.pop()
		s.push(truth(left == right))
	case api.Jump:
		s.next = in.Target
	case api.Branch:
		if i := s.pop(); i != 0 {
			s.next = in.Target
		}
	}
}

// reckon does the instructions that make one number of two, and answers the outcome.
func (s *standing) reckon(op int) int {
	j := s.pop()
	i := s.pop()
	switch op {
	case api.Add:
		s.push(i + j)
	case api.Sub:
		s.push(i - j)
	case api.Mul:
		s.push(i * j)
	case api.Div:
		if j == 0 {
			return api.TrapDiv
		}
		s.push(i / j)
	case api.Less:
		s.push(truth(i < j))
	}
	return api.Running
}

func signed(operand int) int {
	if operand < 128 {
		return operand
	}
	return operand - 256
}

func truth(holds bool) int {
	if holds {
		return 1
	}
	return 0
}
