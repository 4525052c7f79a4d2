package tint_test

import (
	"slices"
	"testing"

	"tint/api"
	"tint/tint"
)

const (
	least    = -1 << 63
	greatest = 1<<63 - 1
)

func TestNewAnswers(t *testing.T) {
	good := image(0, api.Byte, 7, api.Halt)
	shape := "T\x05\x01\x07\x00"
	code := image(0, 25)
	jump := image(0, api.Jump, 1)
	end := image(0, api.Byte, 7)
	typed := image(0, api.Halt)
	for _, c := range []struct {
		name   string
		x      string
		inputs int
		cells  int
		want   api.Errno
	}{
		{"fewest cells", good, 0, 1, api.OK},
		{"most cells", good, 0, 32, api.OK},
		{"no cells", good, 0, 0, api.ErrCells},
		{"below none", good, 0, -1, api.ErrCells},
		{"above most cells", good, 0, 33, api.ErrCells},
		{"the least number of cells", good, 0, least, api.ErrCells},
		{"the greatest number of cells", good, 0, greatest, api.ErrCells},
		{"a number of cells that is 1 in 32 bits", good, 0, 1<<32 + 1, api.ErrCells},
		{"one input", good, 1, 4, api.OK},
		{"most inputs", good, 64, 4, api.OK},
		{"above most inputs", good, 65, 4, api.ErrInputs},
		{"very many inputs", good, 1 << 20, 4, api.ErrInputs},
		{"cells and inputs", good, 65, 33, api.ErrCells},
		{"no cells and inputs", good, 65, 0, api.ErrCells},
		{"shape", shape, 0, 4, api.ErrShape},
		{"code", code, 0, 4, api.ErrCode},
		{"jump", jump, 0, 4, api.ErrJump},
		{"end", end, 0, 4, api.ErrEnd},
		{"type", typed, 0, 4, api.ErrType},
		{"no image", "", 0, 4, api.ErrShape},
		{"shape, cells and inputs", shape, 65, 0, api.ErrShape},
		{"code, cells and inputs", code, 65, 0, api.ErrCode},
		{"jump, cells and inputs", jump, 65, 33, api.ErrJump},
		{"end, cells", end, 0, 33, api.ErrEnd},
		{"type, cells", typed, 0, least, api.ErrType},
		{"type, inputs", typed, 65, 4, api.ErrType},
	} {
		m, err := tint.New(c.x, make([]int, c.inputs), c.cells)
		if err != c.want {
			t.Errorf("P5: %s: New answers %d, want %d", c.name, err, c.want)
		}
		if (m == nil) != (c.want != api.OK) {
			t.Errorf("P1: %s: New answers the machine %v beside %d", c.name, m, err)
		}
	}
}

// A new machine, with each number of locals and of cells.
func TestNewMachine(t *testing.T) {
	for locals := range api.MaxLocals + 1 {
		for cells := 1; cells <= api.MaxCells; cells++ {
			m, err := tint.New(image(locals, api.New, api.Drop, api.Jump, 0), nil, cells)
			if m == nil || err != api.OK {
				t.Fatalf("P5: New = %v, %d", m, err)
			}
			want := api.State{Locals: make([]api.Slot, locals)}
			if got := m.State(); !sameState(got, want) {
				t.Errorf("P5: State %+v, want %+v", got, want)
			}
			free := slices.Repeat([]api.Cell{{Colour: api.Free, A: -1, B: -1}}, cells)
			if got := m.Heap(); !slices.Equal(got, free) {
				t.Errorf("P5: Heap %+v, want %d free cells", got, cells)
			}
			if got := m.Output(); len(got) != 0 {
				t.Errorf("P5: Output %v", got)
			}
		}
	}
}

// A local that is Mixed at place 0 is told as such at the very start.
func TestNewMachineMixedAtOnce(t *testing.T) {
	m, _ := tint.New(image(2, api.Null, api.Store, 1, api.Jump, 0), nil, 1)
	want := api.State{Locals: []api.Slot{{Type: api.Int}, {Type: api.Mixed}}}
	if got := m.State(); !sameState(got, want) {
		t.Errorf("P6: State %+v, want %+v", got, want)
	}
}
