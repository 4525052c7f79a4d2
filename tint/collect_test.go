package tint_test

import (
	"slices"
	"testing"

	"tint/api"
	"tint/tint"
)

// colours: of all cells: . free, w White, g Grey, b Black.
func colours(m *tint.Machine) string {
	text := ""
	for _, c := range m.Heap() {
		text += ".wgb"[c.Colour : c.Colour+1]
	}
	return text
}

// collect: so many units, behind which phase, hand and colours must be these.
func collect(t *testing.T, m *tint.Machine, units, phase, hand int, want string) {
	t.Helper()
	got, err := m.Collect(units)
	s := m.State()
	if got != phase || err != api.OK || s.Phase != phase || s.Hand != hand || colours(m) != want {
		t.Fatalf("P9: Collect(%d) = %d, %d; State %+v, cells %s, want phase %d, hand %d, cells %s", units, got, err, s, colours(m), phase, hand, want)
	}
}

// stands: phase, hand and colours must be these; nothing is done.
func stands(t *testing.T, m *tint.Machine, phase, hand int, want string) {
	t.Helper()
	collect(t, m, 0, phase, hand, want)
}

// A number of units that may not be is refused in every phase and behind every end, and nothing is changed.
func TestCollectRefuses(t *testing.T) {
	x := image(2, api.New, api.Dup, api.Store, 0, api.Weak, api.Store, 1, api.New, api.Number, api.Halt)
	for before := range 20 {
		for taken := range 8 {
			m := machine(t, x, nil, 4)
			for range taken {
				m.Step()
			}
			m.Collect(before)
			state, cells, out := m.State(), m.Heap(), m.Output()
			for _, units := range []int{-1, 1001, least, greatest, 1 << 32, -1 << 32, 1<<32 + 1} {
				if got, err := m.Collect(units); got != 0 || err != api.ErrArg {
					t.Errorf("P9: Collect(%d) = %d, %d", units, got, err)
				}
				if !sameState(m.State(), state) || !slices.Equal(m.Heap(), cells) || !slices.Equal(m.Output(), out) {
					t.Errorf("P1: Collect(%d) changed %+v to %+v", units, state, m.State())
				}
			}
			if got, err := m.Collect(0); got != state.Phase || err != api.OK || !sameState(m.State(), state) || !slices.Equal(m.Heap(), cells) {
				t.Errorf("P9: Collect(0) = %d, %d; State %+v, was %+v", got, err, m.State(), state)
			}
		}
	}
}

// So many units at once are as many one by one, up to the most that may be.
func TestCollectMany(t *testing.T) {
	x := image(1, api.New, api.Dup, api.Store, 0, api.New, api.Set, 0, api.New, api.Drop, api.Jump, 0)
	for _, units := range []int{0, 1, 2, 3, 9, 10, 11, 500, 999, 1000} {
		one, many := machine(t, x, nil, 7), machine(t, x, nil, 7)
		steps(t, one, 7)
		steps(t, many, 7)
		for range units {
			one.Collect(1)
		}
		many.Collect(units)
		if !sameState(one.State(), many.State()) || !slices.Equal(one.Heap(), many.Heap()) {
			t.Errorf("P9: %d units one by one: %+v, %s; at once: %+v, %s", units, one.State(), colours(one), many.State(), colours(many))
		}
	}
}

// A round over an empty heap, and over one cell, free, let go, and held.
func TestSmallestRounds(t *testing.T) {
	m := machine(t, image(0, api.New, api.Dup, api.Drop, api.Drop, api.Jump, 0), nil, 1)
	collect(t, m, 1, api.Mark, 0, ".")
	collect(t, m, 1, api.Sweep, 0, ".")
	collect(t, m, 1, api.Idle, 0, ".")
	steps(t, m, 1)
	collect(t, m, 1, api.Mark, 0, "g")
	collect(t, m, 1, api.Mark, 0, "b")
	collect(t, m, 1, api.Sweep, 0, "b")
	collect(t, m, 1, api.Idle, 0, "w")
	steps(t, m, 3)
	stands(t, m, api.Idle, 0, "w")
	collect(t, m, 1, api.Mark, 0, "w")
	collect(t, m, 1, api.Sweep, 0, "w")
	collect(t, m, 1, api.Idle, 0, ".")
	m = machine(t, image(0, api.New, api.Drop, api.Jump, 0), nil, 3)
	collect(t, m, 2, api.Sweep, 0, "...")
	collect(t, m, 1, api.Sweep, 1, "...")
	collect(t, m, 1, api.Sweep, 2, "...")
	collect(t, m, 1, api.Idle, 0, "...")
}

// The Grey cell of the smallest number comes first, one a unit; A and B of it are shaded, and what it does not refer to is not.
func TestGreyInOrder(t *testing.T) {
	// local 0: cell 2, A cell 0, B cell 1; local 1: cell 3; cell 4 is let go
	x := image(2,
		api.New, api.Store, 0, api.New, api.Store, 1,
		api.New, api.Dup, api.Load, 0, api.Set, 0, api.Dup, api.Load, 1, api.Set, 1, api.Store, 0,
		api.New, api.Store, 1, api.New, api.Drop, api.Jump, 22)
	m := machine(t, x, nil, 6)
	steps(t, m, 16)
	stands(t, m, api.Idle, 0, "wwwww.")
	collect(t, m, 1, api.Mark, 0, "wwggw.")
	collect(t, m, 1, api.Mark, 0, "ggbgw.")
	collect(t, m, 1, api.Mark, 0, "bgbgw.")
	collect(t, m, 1, api.Mark, 0, "bbbgw.")
	collect(t, m, 1, api.Mark, 0, "bbbbw.")
	collect(t, m, 1, api.Sweep, 0, "bbbbw.")
	collect(t, m, 4, api.Sweep, 4, "wwwww.")
	collect(t, m, 1, api.Sweep, 5, "wwww..")
	collect(t, m, 1, api.Idle, 0, "wwww..")
}

// Rings and cells that refer to themselves are marked once, and freed when they are let go.
func TestRings(t *testing.T) {
	// cells 0 and 1 refer to one another, cell 2 to itself
	x := image(2,
		api.New, api.Store, 0, api.New, api.Store, 1,
		api.Load, 0, api.Load, 1, api.Set, 0, api.Load, 1, api.Load, 0, api.Set, 1,
		api.New, api.Dup, api.Dup, api.Set, 1, api.Store, 1,
		api.Null, api.Store, 0, api.Null, api.Store, 1, api.Jump, 0)
	m := machine(t, x, nil, 3)
	steps(t, m, 15)
	collect(t, m, 1, api.Mark, 0, "gwg")
	collect(t, m, 3, api.Mark, 0, "bbb")
	collect(t, m, 4, api.Idle, 0, "www")
	steps(t, m, 2)
	collect(t, m, 1, api.Mark, 0, "wwg")
	collect(t, m, 2, api.Sweep, 0, "wwb")
	collect(t, m, 3, api.Idle, 0, "..w")
	steps(t, m, 2)
	collect(t, m, 5, api.Idle, 0, "...")
	if got := m.Heap(); !slices.Equal(got, slices.Repeat([]api.Cell{{A: -1, B: -1}}, 3)) {
		t.Errorf("P9: freed cells are %+v", got)
	}
}

// A freed cell is plain, without references and number, whatever it was; and so is one that is taken there anew.
func TestFreedIsBlank(t *testing.T) {
	x := image(1,
		api.New, api.Dup, api.Dup, api.Set, 0, api.Dup, api.Dup, api.Set, 1, api.Dup, api.Byte, 9, api.Note,
		api.Weak, api.Drop, api.New, api.Drop, api.Null, api.Weak, api.Store, 0, api.Jump, 0)
	m := machine(t, x, nil, 2)
	steps(t, m, 12)
	if got, want := m.Heap(), []api.Cell{{Colour: api.White, A: 0, B: 0, Num: 9}, {Colour: api.White, Weak: true, A: 0, B: -1}}; !slices.Equal(got, want) {
		t.Fatalf("P7: Heap %+v, want %+v", got, want)
	}
	collect(t, m, 3, api.Sweep, 1, ".w")
	collect(t, m, 1, api.Idle, 0, "..")
	if got := m.Heap(); !slices.Equal(got, []api.Cell{{A: -1, B: -1}, {A: -1, B: -1}}) {
		t.Errorf("P9: freed cells are %+v", got)
	}
	steps(t, m, 1)
	if got := m.Heap()[0]; got != (api.Cell{Colour: api.White, A: -1, B: -1}) {
		t.Errorf("P8: taken anew: %+v", got)
	}
	steps(t, m, 4) // a weak cell where a plain one was
	if got := m.Heap()[1]; got != (api.Cell{Colour: api.White, Weak: true, A: -1, B: -1}) {
		t.Errorf("P8: taken anew: %+v", got)
	}
}

// Numbers in locals and on the stack are no references, though they be a cell's number.
func TestNumbersAreNoRoots(t *testing.T) {
	x := image(2, api.New, api.Drop, api.New, api.Store, 0, api.Byte, 0, api.Dup, api.Store, 1, api.Byte, 1, api.Null, api.Byte, 2, api.Drop, api.Drop, api.Drop, api.Halt)
	m := machine(t, x, nil, 3)
	steps(t, m, 9) // local 0: cell 1; local 1: the number 0; the stack: 0, 1, None, 2
	collect(t, m, 1, api.Mark, 0, "wg.")
	collect(t, m, 5, api.Idle, 0, ".w.")
}

// A local that is Mixed is no root, though it holds a reference; one that is told as Ref is.
func TestMixedIsNoRoot(t *testing.T) {
	// local 0 is Mixed from place 6 on, until a cell is stored there again
	x := image(1, api.In, api.Branch, 6, api.New, api.Store, 0, api.In, api.Drop, api.New, api.Store, 0, api.In, api.Halt)
	m := machine(t, x, nil, 2)
	steps(t, m, 3)
	collect(t, m, 1, api.Mark, 0, "g.") // at place 4 it lies on the stack
	m = machine(t, x, nil, 2)
	steps(t, m, 4)
	if s := m.State(); s.Place != 6 || s.Locals[0] != (api.Slot{Type: api.Mixed}) {
		t.Fatalf("P6: State %+v", s)
	}
	collect(t, m, 1, api.Mark, 0, "w.")
	collect(t, m, 3, api.Idle, 0, "..")
	steps(t, m, 4)
	collect(t, m, 1, api.Mark, 0, "g.")
}

// A machine that has ended is collected like any other; its roots are what State tells.
func TestCollectBehindTheEnd(t *testing.T) {
	for _, c := range endings {
		m := machine(t, c.x, []int{5, 6}, c.cells)
		s := begin(t, c.x, []int{5, 6}, c.cells)
		for range c.before + 1 {
			stepBoth(t, c.x, m, s)
		}
		if m.State().Outcome != c.outcome {
			t.Errorf("P7: %s: State %+v", c.name, m.State())
		}
		for range 2*c.cells + 5 {
			collectBoth(t, c.x, m, s, 1)
			over(t, c.x, m, s)
		}
		settle(t, c.x, m, s)
	}
}

// What a weak cell looks at is not kept by that: it ceases to look when marking ends, ahead of the sweep; with one that is kept by others it goes on.
func TestWeakCells(t *testing.T) {
	// local 0: weak 1, looks at cell 0, which is let go; local 1: weak 3, looks at cell 2, which local 2 has
	x := image(3,
		api.New, api.Weak, api.Store, 0,
		api.New, api.Dup, api.Store, 2, api.Weak, api.Store, 1,
		api.Null, api.Weak, api.Weak, api.Store, 2, api.Jump, 11)
	m := machine(t, x, nil, 6)
	steps(t, m, 8)
	collect(t, m, 1, api.Mark, 0, "wggg..")
	collect(t, m, 3, api.Mark, 0, "wbbb..")
	if got := m.Heap(); got[1].A != 0 || got[3].A != 2 {
		t.Errorf("P9: while it marks: %+v", got)
	}
	collect(t, m, 1, api.Sweep, 0, "wbbb..")
	if got := m.Heap(); got[1] != (api.Cell{Colour: api.Black, Weak: true, A: -1, B: -1}) || got[3].A != 2 {
		t.Errorf("P9: at the end of marking: %+v", got)
	}
	collect(t, m, 6, api.Idle, 0, ".www..")
	steps(t, m, 4) // weak 4 looks at weak 0, which looks at None; local 2 has lost cell 2
	collect(t, m, 1, api.Mark, 0, "wgwgg.")
	collect(t, m, 4, api.Sweep, 0, "wbwbb.")
	if got := m.Heap(); got[3].A != -1 || got[4].A != -1 {
		t.Errorf("P9: %+v", got)
	}
	collect(t, m, 6, api.Idle, 0, ".w.ww.")
}

// A weak cell that is let go itself ceases to look at what is let go too, and goes on looking at what is not.
func TestWeakCellsLetGo(t *testing.T) {
	x := image(1, api.New, api.Weak, api.Drop, api.New, api.Dup, api.Store, 0, api.Weak, api.Drop, api.Jump, 0)
	m := machine(t, x, nil, 4)
	steps(t, m, 8)
	collect(t, m, 3, api.Sweep, 0, "wwbw")
	if got := m.Heap(); got[1].A != -1 || got[3].A != 2 {
		t.Errorf("P9: %+v", got)
	}
	collect(t, m, 2, api.Sweep, 2, "..bw")
	collect(t, m, 2, api.Idle, 0, "..w.")
}

// A root that came up while it marked is found at the end of marking, and marking goes on.
func TestLateRoots(t *testing.T) {
	// local 0: a list of cells 2, 1, 0; then its rest is taken off, so that it lies on the stack alone
	x := image(1,
		api.New, api.Store, 0,
		api.New, api.Dup, api.Load, 0, api.Set, 1, api.Store, 0,
		api.New, api.Dup, api.Load, 0, api.Set, 1, api.Store, 0,
		api.Load, 0, api.Get, 1, api.Load, 0, api.Null, api.Set, 1, api.Drop, api.Jump, 19)
	m := machine(t, x, nil, 4)
	steps(t, m, 12)
	collect(t, m, 1, api.Mark, 0, "wwg.")
	steps(t, m, 5)
	collect(t, m, 1, api.Mark, 0, "wwb.")
	collect(t, m, 1, api.Mark, 0, "wgb.") // the stack's
	collect(t, m, 1, api.Mark, 0, "gbb.")
	collect(t, m, 1, api.Mark, 0, "bbb.")
	steps(t, m, 1)
	collect(t, m, 1, api.Sweep, 0, "bbb.")
	collect(t, m, 4, api.Idle, 0, "www.")
	collect(t, m, 3, api.Sweep, 0, "wwb.")
	collect(t, m, 4, api.Idle, 0, "..w.")
}
