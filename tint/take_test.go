package tint_test

import (
	"slices"
	"testing"

	"tint/api"
)

// In the phase Mark a Set shades what it sets, A or B, in a cell of any colour; None and what is not White stay.
func TestSetShades(t *testing.T) {
	// local 0: cell 0, local 1: weak 2, which looks at cell 1
	code := func(n byte) string {
		return image(2, api.New, api.Store, 0, api.New, api.Weak, api.Store, 1, api.Load, 0, api.Load, 1, api.Peek, api.Set, n, api.Load, 0, api.Null, api.Set, n, api.Load, 1, api.Peek, api.Dup, api.Set, n, api.Jump, 14)
	}
	for n := range byte(2) {
		for _, c := range []struct {
			units, phase int
			ahead, set   string
		}{
			{0, api.Idle, "www.", "www."},
			{1, api.Mark, "gwg.", "ggg."},
			{2, api.Mark, "bwg.", "bgg."},
			{3, api.Mark, "bwb.", "bgb."},
		} {
			m := machine(t, code(n), nil, 4)
			steps(t, m, 5)
			collect(t, m, c.units, c.phase, 0, c.ahead)
			steps(t, m, 3)
			stands(t, m, c.phase, 0, c.ahead)
			steps(t, m, 1)
			stands(t, m, c.phase, 0, c.set)
			steps(t, m, 3)
			stands(t, m, c.phase, 0, c.set)
			steps(t, m, 4)
			stands(t, m, c.phase, 0, c.set)
		}
	}
}

// A White cell that is set into itself is shaded; so is one that is set into a White cell.
func TestSetShadesOfWhite(t *testing.T) {
	x := image(1, api.New, api.Weak, api.Store, 0, api.Load, 0, api.Peek, api.Dup, api.Set, 0, api.Jump, 4)
	m := machine(t, x, nil, 2)
	steps(t, m, 3)
	collect(t, m, 1, api.Mark, 0, "wg")
	steps(t, m, 4)
	stands(t, m, api.Mark, 0, "gg")
	collect(t, m, 2, api.Mark, 0, "bb")
	if got := m.Heap()[0]; got.A != 0 {
		t.Errorf("P7: %+v", got)
	}
}

// In the phase Sweep a Set shades nothing, on either side of the hand.
func TestSetShadesNothingInSweep(t *testing.T) {
	x := image(2, api.New, api.Store, 0, api.New, api.Store, 1, api.Load, 0, api.Load, 1, api.Set, 0, api.Load, 1, api.Load, 0, api.Set, 1, api.Jump, 6)
	m := machine(t, x, nil, 2)
	steps(t, m, 4)
	collect(t, m, 5, api.Sweep, 1, "wb")
	steps(t, m, 6)
	stands(t, m, api.Sweep, 1, "wb")
	collect(t, m, 1, api.Idle, 0, "ww")
}

// A Set that traps shades nothing: it is not done.
func TestTrappedSetShadesNothing(t *testing.T) {
	for _, c := range []struct {
		name    string
		first   []byte
		outcome int
	}{
		{"None", []byte{api.Null}, api.TrapNull},
		{"a weak cell", []byte{api.Load, 0}, api.TrapKind},
	} {
		x := image(1, join([]byte{api.New, api.Weak, api.Store, 0}, c.first, []byte{api.Load, 0, api.Peek, api.Set, 0, api.Jump, 0})...)
		m := machine(t, x, nil, 2)
		steps(t, m, 3)
		collect(t, m, 1, api.Mark, 0, "wg")
		steps(t, m, 3)
		if got, err := m.Step(); got != c.outcome || err != api.OK {
			t.Errorf("P7: Set of %s = %d, %d", c.name, got, err)
		}
		stands(t, m, api.Mark, 0, "wg")
		collect(t, m, 1, api.Mark, 0, "wb")
		collect(t, m, 1, api.Mark, 0, "gb") // it lies on the stack
	}
}

// Other instructions shade nothing and move the collector no further, as long as a cell is free.
func TestOthersShadeNothing(t *testing.T) {
	x := image(2, api.New, api.Weak, api.Store, 0, api.Load, 0, api.Peek, api.Dup, api.Store, 1, api.Dup, api.Byte, 3, api.Note, api.Dup, api.Number, api.Out, api.Dup, api.Get, 0, api.Drop, api.Weak, api.Peek, api.Null, api.Same, api.Drop, api.New, api.Drop, api.Jump, 4)
	m := machine(t, x, nil, 4)
	steps(t, m, 3)
	collect(t, m, 1, api.Mark, 0, "wg..")
	steps(t, m, 13)
	stands(t, m, api.Mark, 0, "wg..")
	steps(t, m, 1) // Weak
	stands(t, m, api.Mark, 0, "wgb.")
	steps(t, m, 5) // New
	stands(t, m, api.Mark, 0, "wgbb")
}

// The colour of what New and Weak take, in each phase, below the hand and not below it.
func TestColoursOfTaken(t *testing.T) {
	for _, c := range []struct {
		units, phase, hand int
		want               string
	}{
		{0, api.Idle, 0, "ww.."},
		{1, api.Mark, 0, "bb.."},
		{2, api.Sweep, 0, "bb.."},
		{3, api.Sweep, 1, "wb.."},
		{4, api.Sweep, 2, "ww.."},
		{5, api.Sweep, 3, "ww.."},
		{6, api.Idle, 0, "ww.."},
	} {
		for _, second := range [][]byte{{api.New}, {api.Null, api.Weak}} {
			m := machine(t, image(1, join([]byte{api.New, api.Drop}, second, []byte{api.Drop, api.Jump, 0})...), nil, 4)
			m.Collect(c.units)
			steps(t, m, 2+len(second))
			stands(t, m, c.phase, c.hand, c.want)
		}
	}
}

// When no cell is free the collector goes on to the end of its round, even if a cell is free earlier; and does a whole round, if none is free then.
func TestRoomIsMade(t *testing.T) {
	// local 0 has cell 1; cells 0 and 2 are let go
	x := image(1, api.New, api.Drop, api.New, api.Store, 0, api.New, api.Drop, api.New, api.Drop, api.Jump, 0)
	for _, c := range []struct {
		units       int
		ahead, want string
		phase, hand int
	}{
		{0, "www", "ww.", api.Idle, 0},
		{1, "wgw", "ww.", api.Idle, 0},
		{2, "wbw", "ww.", api.Idle, 0},
		{3, "wbw", "ww.", api.Idle, 0},
		{4, ".bw", "wbw", api.Sweep, 1},
		{5, ".ww", "www", api.Sweep, 2},
		{6, ".w.", "ww.", api.Idle, 0},
		{7, ".g.", "bg.", api.Mark, 0},
	} {
		m := machine(t, x, nil, 3)
		steps(t, m, 6)
		m.Collect(c.units)
		if got := colours(m); got != c.ahead {
			t.Errorf("P9: behind %d units %s, want %s", c.units, got, c.ahead)
		}
		steps(t, m, 1)
		stands(t, m, c.phase, c.hand, c.want)
		if got := m.State().Stack; !slices.Equal(got, refer(0)) {
			t.Errorf("P8: %d units ahead of New: took %v", c.units, got)
		}
	}
}

// A round that was under way keeps what was let go since it began; then another one is done.
func TestTwoRounds(t *testing.T) {
	for _, c := range []struct {
		units, phase, hand int
		ahead              string
	}{
		{1, api.Mark, 0, "gg"},
		{2, api.Mark, 0, "bg"},
		{3, api.Mark, 0, "bb"},
		{4, api.Sweep, 0, "bb"},
		{5, api.Sweep, 1, "wb"},
	} {
		// cells 0 and 1 are held while it begins, then cell 0 is let go
		m := machine(t, image(2, api.New, api.Store, 0, api.New, api.Store, 1, api.Null, api.Store, 0, api.New, api.Store, 0, api.Jump, 6), nil, 2)
		steps(t, m, 4)
		collect(t, m, c.units, c.phase, c.hand, c.ahead)
		steps(t, m, 3)
		stands(t, m, api.Idle, 0, "ww")
		if s := m.State(); !slices.Equal(s.Stack, refer(0)) || !slices.Equal(s.Locals, append(refer(-1), refer(1)...)) {
			t.Errorf("P8: State %+v", s)
		}
	}
}

// What Weak pops is a root while room is made for the weak cell, though nothing else has it.
func TestWeakKeepsWhatItPops(t *testing.T) {
	x := image(1, api.New, api.Drop, api.New, api.Weak, api.Store, 0, api.Load, 0, api.Peek, api.Drop, api.Jump, 0)
	for units := range 12 {
		m := machine(t, x, nil, 2)
		steps(t, m, 3) // cell 0 is let go, cell 1 on the stack
		for range units {
			if colours(m)[0] == 'w' {
				m.Collect(1)
			}
		}
		steps(t, m, 1)
		want := []api.Cell{{Weak: true, A: 1, B: -1}, {A: -1, B: -1}}
		got := m.Heap()
		for k := range got {
			want[k].Colour = got[k].Colour
		}
		if !slices.Equal(got, want) || !slices.Equal(m.State().Stack, refer(0)) || got[1].Colour == api.Free {
			t.Errorf("P8: %d units ahead of Weak: %+v, State %+v", units, got, m.State())
		}
	}
}

// A machine that finds its heap Full has done a whole round; place, locals, stack and output stay; it may be collected further, to no avail.
func TestFull(t *testing.T) {
	x := image(1, api.Byte, 8, api.Out, api.New, api.Store, 0, api.Load, 0, api.New, api.Set, 0, api.New, api.New, api.Weak, api.Drop, api.Drop, api.Jump, 0)
	for units := range 20 {
		m := machine(t, x, nil, 4)
		steps(t, m, 9)
		m.Collect(units)
		before := m.State()
		if got, err := m.Step(); got != api.Full || err != api.OK {
			t.Errorf("P8: Step = %d, %d", got, err)
		}
		before.Outcome = api.Full
		before.Phase = api.Idle
		before.Hand = 0
		if got := m.State(); !sameState(got, before) || colours(m) != "wwww" || !slices.Equal(m.Output(), []int{8}) {
			t.Errorf("P8: %d units ahead: State %+v, want %+v; cells %s, out %v", units, got, before, colours(m), m.Output())
		}
		collect(t, m, 1, api.Mark, 0, "gwgg")
		collect(t, m, 1000, m.State().Phase, m.State().Hand, colours(m))
	}
}
