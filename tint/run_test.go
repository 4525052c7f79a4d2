package tint_test

import (
	"slices"
	"testing"

	"tint/api"
	"tint/tint"
)

func sameEnd(a, b api.End) bool {
	return a.Outcome == b.Outcome && a.Value == b.Value && a.Steps == b.Steps && slices.Equal(a.Output, b.Output)
}

// runs: a run must end so.
func runs(t *testing.T, x string, inputs []int, cells int, units []int, steps int, want api.End) {
	t.Helper()
	got, err := tint.Run(x, inputs, cells, units, steps)
	if err != api.OK || !sameEnd(got, want) {
		t.Errorf("P10: Run(%x, %v, %d, %v, %d) = %+v, %d, want %+v", x, inputs, cells, units, steps, got, err, want)
	}
}

// someUnits: lists of units that what does not hang on them is run with.
var someUnits = [][]int{nil, {}, {0}, {1}, {2}, {7}, {1000}, {0, 1}, {1, 0, 2}, {3, 0, 0, 0, 40}, {0, 0, 0, 0, 0, 0, 1}}

func TestRunsOfExamples(t *testing.T) {
	for _, c := range []struct {
		text   string
		inputs []int
		cells  int
		steps  int
		want   api.End
	}{
		{"54 00 01 07 00", nil, 1, 5, api.End{Outcome: api.Halted, Value: 7, Steps: 2}},
		{"54 00 01 07 00", make([]int, 64), 32, 5, api.End{Outcome: api.Halted, Value: 7, Steps: 2}},
		{"54 00 01 07 00", nil, 1, 1, api.End{Steps: 1}},
		{"54 00 01 07 00", nil, 1, 2, api.End{Outcome: api.Halted, Value: 7, Steps: 2}},
		{"54 00 01 07 00", nil, 1, 0, api.End{}},
		{"54 00 01 f9 01 00 05 00", nil, 1, 99, api.End{Outcome: api.TrapDiv, Steps: 3}},
		{"54 00 01 f9 01 02 05 00", nil, 1, 99, api.End{Outcome: api.Halted, Value: -3, Steps: 4}},
		{"54 00 0c 10 00", nil, 1, 99, api.End{Outcome: api.TrapNull, Steps: 2}},
		{"54 00 0d 18 0a 01 00 00", nil, 1, 99, api.End{Outcome: api.TrapKind, Steps: 2}},
		{"54 00 15 16 13 00", []int{5, -6}, 1, 7, api.End{Steps: 7, Output: []int{5, -6}}},
		{"54 00 0d 0a 13 00", nil, 1, 2000, api.End{Steps: 2000}},
		{"54 01 0d 08 00 0d 07 00 0f 00 07 00 10 00", nil, 1, 99, api.End{Outcome: api.Full, Steps: 3}},
		{"54 01 0d 08 00 0d 07 00 0f 00 07 00 10 00", nil, 2, 99, api.End{Outcome: api.Halted, Steps: 8}},
		{"54 01 0c 08 00 0d 09 07 00 0f 00 08 00 13 03", nil, 4, 100, api.End{Outcome: api.Full, Steps: 27}},
		{"54 01 0c 08 00 0d 09 07 00 0f 00 08 00 13 03", nil, 4, 27, api.End{Outcome: api.Full, Steps: 27}},
		{"54 01 0c 08 00 0d 09 07 00 0f 00 08 00 13 03", nil, 4, 26, api.End{Steps: 26}},
		{"54 00 0d 17 18 0a 01 00 00", nil, 2, 99, api.End{Outcome: api.Halted, Steps: 6}},
		{"54 00 0d 17 18 0a 01 00 00", nil, 1, 99, api.End{Outcome: api.Full, Steps: 2}},
	} {
		for _, units := range someUnits {
			runs(t, bytesOf(t, c.text), c.inputs, c.cells, units, c.steps, c.want)
		}
	}
}

// Each way to end: the step that ends the machine counts, and none is taken behind it; one step fewer, and the machine is Running.
func TestRunsToTheirEnd(t *testing.T) {
	for _, c := range endings {
		m := machine(t, c.x, []int{5, 6}, c.cells)
		steps(t, m, c.before)
		out := m.Output()
		for _, units := range someUnits {
			for _, steps := range []int{c.before + 1, c.before + 2, 1999, 2000} {
				runs(t, c.x, []int{5, 6}, c.cells, units, steps, api.End{Outcome: c.outcome, Value: c.value, Steps: c.before + 1, Output: out})
			}
			runs(t, c.x, []int{5, 6}, c.cells, units, c.before, api.End{Steps: c.before, Output: out})
		}
	}
}

// As many steps are taken as may be, to the most; each lets out what it should.
func TestRunTakesSoManySteps(t *testing.T) {
	x := image(1, api.Load, 0, api.Byte, 1, api.Add, api.Dup, api.Out, api.Store, 0, api.Jump, 0)
	for _, steps := range []int{0, 1, 4, 5, 6, 11, 12, 999, 1000, 1999, 2000} {
		var out []int
		for k := 4; k < steps; k += 7 {
			out = append(out, len(out)+1)
		}
		runs(t, x, nil, 1, []int{1, 0}, steps, api.End{Steps: steps, Output: out})
	}
}

func TestRunRefuses(t *testing.T) {
	good := image(0, api.In, api.Out, api.Jump, 0)
	wrong := []int{0, 5, -1}
	for _, c := range []struct {
		name   string
		x      string
		inputs int
		cells  int
		units  []int
		steps  int
		want   api.Errno
	}{
		{"the bounds", good, 64, 32, []int{0, 1000}, 2000, api.OK},
		{"the other bounds", good, 0, 1, nil, 0, api.OK},
		{"units below 0", good, 0, 1, []int{-1}, 9, api.ErrArg},
		{"units above the most", good, 0, 1, []int{1001}, 9, api.ErrArg},
		{"the least units", good, 0, 1, []int{least}, 9, api.ErrArg},
		{"the greatest units", good, 0, 1, []int{greatest}, 9, api.ErrArg},
		{"units that are 1 in 32 bits", good, 0, 1, []int{1<<32 + 1}, 9, api.ErrArg},
		{"wrong units first", good, 0, 1, []int{-1, 5, 0}, 9, api.ErrArg},
		{"wrong units in the middle", good, 0, 1, []int{3, 1001, 0}, 9, api.ErrArg},
		{"wrong units last", good, 0, 1, wrong, 9, api.ErrArg},
		{"wrong units whose turn does not come", good, 0, 1, wrong, 2, api.ErrArg},
		{"wrong units and no steps", good, 0, 1, wrong, 0, api.ErrArg},
		{"wrong units behind the end", image(0, api.In, api.Halt), 0, 1, wrong, 9, api.ErrArg},
		{"steps below 0", good, 0, 1, nil, -1, api.ErrArg},
		{"steps above the most", good, 0, 1, nil, 2001, api.ErrArg},
		{"the least steps", good, 0, 1, nil, least, api.ErrArg},
		{"the greatest steps", good, 0, 1, nil, greatest, api.ErrArg},
		{"steps that are 1 in 32 bits", good, 0, 1, nil, 1<<32 + 1, api.ErrArg},
		{"wrong units and steps", good, 0, 1, wrong, -1, api.ErrArg},
		{"no cells", good, 0, 0, nil, 9, api.ErrCells},
		{"too many cells", good, 0, 33, nil, 9, api.ErrCells},
		{"too many inputs", good, 65, 1, nil, 9, api.ErrInputs},
		{"cells, and all behind", good, 65, 33, wrong, -1, api.ErrCells},
		{"inputs, and all behind", good, 65, 32, wrong, 2001, api.ErrInputs},
		{"cells and steps", good, 0, -1, nil, 2001, api.ErrCells},
		{"inputs and units", good, 65, 1, wrong, 9, api.ErrInputs},
		{"no image", "", 65, 0, wrong, -1, api.ErrShape},
		{"shape", "T\x05\x01\x07\x00", 65, 0, wrong, -1, api.ErrShape},
		{"code", image(0, 25), 65, 0, wrong, -1, api.ErrCode},
		{"jump", image(0, api.Jump, 1), 65, 33, wrong, 2001, api.ErrJump},
		{"end", image(0, api.Byte, 7), 0, 1, wrong, 9, api.ErrEnd},
		{"type", image(0, api.Halt), 0, 1, nil, -1, api.ErrType},
	} {
		got, err := tint.Run(c.x, make([]int, c.inputs), c.cells, c.units, c.steps)
		if err != c.want {
			t.Errorf("P10: %s: Run answers %d, want %d", c.name, err, c.want)
		}
		if err != api.OK && (!sameEnd(got, api.End{}) || got.Output != nil) {
			t.Errorf("P1: %s: beside the error %d stands %+v", c.name, err, got)
		}
	}
}

// Which units are done ahead of which step: a weak cell tells, for what it looks at is let go at once. Behind step 1, and from Idle on, it takes 3 units until the weak cell looks at None.
func TestUnitsAheadOfSteps(t *testing.T) {
	// The steps 4, 10 and 16 are Peek, with Out 3 steps later; what was peeked at is a root ahead of the two steps behind Peek.
	x := image(1, api.New, api.Weak, api.Store, 0, api.Load, 0, api.Peek, api.Null, api.Same, api.Out, api.Jump, 4)
	at := func(length int, pairs ...int) []int {
		list := make([]int, length)
		for k := 0; k < len(pairs); k += 2 {
			list[pairs[k]] = pairs[k+1]
		}
		return list
	}
	for _, c := range []struct {
		units []int
		want  []int
	}{
		{nil, []int{0, 0, 0}},
		{at(40, 4, 2), []int{0, 0, 0}},
		{at(40, 4, 3), []int{1, 1, 1}},
		{at(40, 5, 3), []int{0, 0, 0}},
		{at(40, 7, 3), []int{0, 1, 1}},
		{at(40, 10, 3), []int{0, 1, 1}},
		{at(40, 11, 3), []int{0, 0, 0}},
		{at(40, 13, 3), []int{0, 0, 1}},
		{at(40, 16, 3), []int{0, 0, 1}},
		{at(40, 17, 3), []int{0, 0, 0}},
		{at(40, 2, 1, 3, 1, 4, 1), []int{1, 1, 1}},
		{at(40, 4, 2, 10, 1), []int{0, 1, 1}},
		{at(40, 4, 2, 11, 1), []int{0, 0, 0}},
		{at(40, 4, 2, 13, 1), []int{0, 0, 1}},
		{at(5, 4, 1), []int{0, 0, 1}}, // ahead of the steps 4, 9 and 14
		{at(6, 4, 1), []int{0, 0, 1}}, // 4, 10 and 16
		{at(6, 5, 1), []int{0, 0, 0}}, // 5, 11 and 17
		{at(7, 2, 1), []int{0, 0, 1}}, // 2, 9 and 16
		{at(7, 3, 1), []int{0, 0, 0}}, // 3, 10 and 17
		{at(4, 2, 1), []int{0, 1, 1}}, // 2, 6 and 10
		{at(3, 2, 1), []int{0, 1, 1}}, // 2, 5 and 8
	} {
		runs(t, x, nil, 32, c.units, 20, api.End{Steps: 20, Output: c.want})
	}
}

// The longest run that may be, with units of every number, and very long lists of units.
func TestLongRuns(t *testing.T) {
	x := image(1, api.New, api.Dup, api.New, api.Set, 0, api.Store, 0, api.New, api.Drop, api.Jump, 0)
	for _, units := range [][]int{{1000}, {999, 1000}, {1000, 0, 1}} {
		runs(t, x, nil, 32, units, 2000, api.End{Steps: 2000})
	}
	many := make([]int, 1<<20)
	runs(t, x, nil, 3, many, 2000, api.End{Steps: 2000})
	many[len(many)-1] = 1001
	if got, err := tint.Run(x, nil, 3, many, 2000); err != api.ErrArg || !sameEnd(got, api.End{}) {
		t.Errorf("P10: wrong units far behind: %+v, %d", got, err)
	}
}
