package flow

import (
	"slices"
	"testing"

	"tint/api"
	"tint/code"
)

func read(t *testing.T, locals byte, bytes ...byte) code.Program {
	t.Helper()
	p, err := code.Read("T" + string([]byte{locals}) + string(bytes))
	if err != api.OK {
		t.Fatalf("Read answers %d", err)
	}
	return p
}

func TestFrames(t *testing.T) {
	frames, good := Frames(read(t, 1, api.In, api.Branch, 6, api.Null, api.Store, 0, api.In, api.Halt, api.Halt))
	if !good || len(frames) != 7 {
		t.Fatalf("Frames = %v, %v", frames, good)
	}
	for k, want := range []struct {
		reached bool
		local   int
		stack   []int
	}{
		{true, api.Int, nil},
		{true, api.Int, []int{api.Int}},
		{true, api.Int, nil},
		{true, api.Int, []int{api.Ref}},
		{true, api.Mixed, nil},
		{true, api.Mixed, []int{api.Int}},
		{false, api.Int, nil},
	} {
		f := frames[k]
		if f.Reached != want.reached || !slices.Equal(f.LocalTypes(1), []int{want.local}) || !slices.Equal(f.StackTypes(), want.stack) {
			t.Errorf("frame %d: %v, want %v", k, f, want)
		}
	}
}

func TestIllTyped(t *testing.T) {
	for _, bytes := range [][]byte{
		{api.Halt},
		{api.Null, api.Halt},
		{api.In, api.Jump, 0},
		{api.Load, 0, api.Out, api.Null, api.Store, 0, api.Jump, 0},
	} {
		if frames, good := Frames(read(t, 1, bytes...)); good || frames != nil {
			t.Errorf("Frames of %v = %v, %v, want none", bytes, frames, good)
		}
	}
}

// Programs that code.Read never answers are not well typed, and nothing breaks at them.
func TestNoProgram(t *testing.T) {
	for _, p := range []code.Program{
		{},
		{Locals: 1, List: []code.Instruction{{Op: api.In}}},
		{List: []code.Instruction{{Op: api.Jump, Target: 5}}},
		{List: []code.Instruction{{Op: api.Jump, Target: -1}}},
		{List: []code.Instruction{{Op: api.Load, Operand: 4}, {Op: api.Halt}}},
		{List: []code.Instruction{{Op: api.Load, Operand: -1}, {Op: api.Halt}}},
		{List: []code.Instruction{{Op: api.In}, {Op: api.Store, Operand: 4}, {Op: api.Jump}}},
		{List: []code.Instruction{{Op: 25}, {Op: api.Jump}}},
		{List: []code.Instruction{{Op: -1}, {Op: api.Jump}}},
	} {
		if frames, good := Frames(p); good || frames != nil {
			t.Errorf("Frames of %v = %v, %v, want none", p, frames, good)
		}
	}
}

func TestTypeListsAreBounded(t *testing.T) {
	f := Frame{Depth: 99}
	if n := len(f.StackTypes()); n != api.MaxStack {
		t.Errorf("StackTypes answers %d types", n)
	}
	if n := len(f.LocalTypes(99)); n != api.MaxLocals {
		t.Errorf("LocalTypes answers %d types", n)
	}
	if n := len(f.LocalTypes(-1)); n != 0 {
		t.Errorf("LocalTypes answers %d types", n)
	}
}
