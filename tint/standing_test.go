package tint

import (
	"testing"

	"tint/api"
	"tint/code"
)

// Checked code never comes to the bounds of stack and locals; what would cross them does nothing.
func TestStandingIsBounded(t *testing.T) {
	var s standing
	for k := range api.MaxStack + 2 {
		s.push(k)
	}
	if s.depth != api.MaxStack || s.stack[api.MaxStack-1] != api.MaxStack-1 {
		t.Errorf("a push above the bound: %+v", s)
	}
	for _, local := range []int{-1, api.MaxLocals} {
		was := s
		s.load(local)
		if s != was {
			t.Errorf("Load %d: %+v", local, s)
		}
		s.store(local)
		if s.locals != was.locals {
			t.Errorf("Store %d: %+v", local, s)
		}
	}
	s = standing{}
	if v := s.pop(); v != 0 || s != (standing{}) {
		t.Errorf("a pop of nothing: %d, %+v", v, s)
	}
	for _, depth := range []int{-1, api.MaxStack + 1} {
		s = standing{depth: depth}
		s.push(5)
		if v := s.pop(); v != 0 || s != (standing{depth: depth}) {
			t.Errorf("the depth %d: %d, %+v", depth, v, s)
		}
	}
}

// A machine that New did not make, and one that stands outside its code, have nothing to do.
func TestNoInstruction(t *testing.T) {
	list := []code.Instruction{{Op: api.In}}
	for _, m := range []*Machine{
		{},
		{program: code.Program{List: list}},
		{program: code.Program{List: list}, now: standing{next: 1}},
		{program: code.Program{List: list}, now: standing{next: -1}},
	} {
		if s := m.State(); s.Outcome != 0 || s.Place != 0 || len(s.Locals) != 0 || len(s.Stack) != 0 {
			t.Errorf("State %+v", s)
		}
		if m.now.next == 0 && len(m.program.List) > 0 {
			continue
		}
		if outcome, err := m.Step(); outcome != 0 || err != api.ErrDone {
			t.Errorf("Step = %d, %d", outcome, err)
		}
	}
}
