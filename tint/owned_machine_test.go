package tint_test

import (
	"slices"
	"testing"

	"tint/api"
	"tint/tint"
)

func scribbleSlots(list []api.Slot) {
	list = list[:cap(list)]
	for k := range list {
		list[k] = api.Slot{Type: 77, V: 77}
	}
}

func scribbleCells(list []api.Cell) {
	list = list[:cap(list)]
	for k := range list {
		list[k] = api.Cell{Colour: 77, Weak: true, A: 77, B: 77, Num: 77}
	}
}

// scribbled: all that a list and its spare room hold is what was written there.
func scribbled(s api.State, cells []api.Cell, out []int) bool {
	for _, slot := range slices.Concat(s.Locals[:cap(s.Locals)], s.Stack[:cap(s.Stack)]) {
		if slot.V != 77 {
			return false
		}
	}
	for _, cell := range cells[:cap(cells)] {
		if cell.Num != 77 {
			return false
		}
	}
	for _, v := range out[:cap(out)] {
		if v != 77 {
			return false
		}
	}
	return true
}

// Everything that comes out is written into behind each step, and nothing that comes out later shows it; nor do later calls write into it.
func TestMachineListsAreFresh(t *testing.T) {
	x := image(2, api.In, api.Dup, api.Out, api.Out, api.New, api.Dup, api.In, api.Note, api.Store, 1, api.In, api.In, api.Out, api.Store, 0, api.Jump, 0)
	inputs := []int{4, 5, 6, 7, 8, 9, 10, 11}
	m := machine(t, x, inputs, 4)
	s := begin(t, x, inputs, 4)
	for range 90 {
		state, cells, out := m.State(), m.Heap(), m.Output()
		scribbleSlots(state.Locals)
		scribbleSlots(state.Stack)
		scribbleCells(cells)
		scribble(out, 77)
		compare(t, x, m, s)
		collectBoth(t, x, m, s, 2)
		stepBoth(t, x, m, s)
		if !scribbled(state, cells, out) {
			t.Errorf("P2: a later call wrote into a list that came out")
		}
	}
}

// Locals and stack of one State share no memory.
func TestStateListsAreApart(t *testing.T) {
	x := image(4, join(repeat(8, api.In), []byte{api.Halt})...)
	for before := range 8 {
		m := machine(t, x, []int{1, 2, 3, 4, 5, 6, 7, 8}, 1)
		steps(t, m, before)
		want := m.State()
		got := m.State()
		scribbleSlots(got.Locals)
		if !slices.Equal(got.Stack, want.Stack) {
			t.Errorf("P2: the stack shares memory with the locals")
		}
		got = m.State()
		scribbleSlots(got.Stack)
		if !slices.Equal(got.Locals, want.Locals) {
			t.Errorf("P2: the locals share memory with the stack")
		}
	}
}

// The list of inputs is neither kept nor written into, nor is its spare room.
func TestInputsAreNotKept(t *testing.T) {
	x := image(0, api.In, api.Out, api.Jump, 0)
	room := []int{1, 2, 3, 4, 5, 6}
	m := machine(t, x, room[:3], 1)
	if !slices.Equal(room, []int{1, 2, 3, 4, 5, 6}) {
		t.Errorf("P2: New wrote into the inputs: %v", room)
	}
	scribble(room, 50)
	steps(t, m, 15)
	if got := m.Output(); !slices.Equal(got, []int{1, 2, 3, 0, 0}) {
		t.Errorf("P2: the inputs were kept: out came %v", got)
	}
	if !slices.Equal(room, []int{50, 50, 50, 50, 50, 50}) {
		t.Errorf("P2: a step wrote into the inputs: %v", room)
	}
	for k := range room {
		room[k] = k
	}
	tint.New(x, make([]int, 65), 1)
	tint.New(x, room, 0)
	if !slices.Equal(room, []int{0, 1, 2, 3, 4, 5}) {
		t.Errorf("P2: a refused New wrote into the inputs: %v", room)
	}
}

// Machines of one image, stepped by turns, do not meet.
func TestMachinesAreApart(t *testing.T) {
	x := image(1, api.New, api.Dup, api.In, api.Note, api.Store, 0, api.Load, 0, api.Number, api.Out, api.Jump, 0)
	var machines []*tint.Machine
	var stories []*story
	for k := range 3 {
		inputs := []int{k, 2 * k, 3 * k}
		machines = append(machines, machine(t, x, inputs, 3+k))
		stories = append(stories, begin(t, x, inputs, 3+k))
	}
	d := dice{3}
	for range 150 {
		k := d.below(3)
		collectBoth(t, x, machines[k], stories[k], d.below(4))
		stepBoth(t, x, machines[k], stories[k])
		for n := range machines {
			compare(t, x, machines[n], stories[n])
		}
	}
}

// What is asked between the steps changes nothing.
func TestAskingChangesNothing(t *testing.T) {
	for _, c := range endings {
		asked := machine(t, c.x, []int{5, 6}, c.cells)
		silent := machine(t, c.x, []int{5, 6}, c.cells)
		for range c.before + 2 {
			asked.State()
			asked.Heap()
			asked.Output()
			asked.Collect(0)
			asked.Collect(-1)
			tint.Maps(c.x)
			first, firstErr := asked.Step()
			second, secondErr := silent.Step()
			if first != second || firstErr != secondErr {
				t.Errorf("P2: %s: Step = %d, %d or %d, %d", c.name, first, firstErr, second, secondErr)
			}
		}
		if !sameState(asked.State(), silent.State()) || !slices.Equal(asked.Heap(), silent.Heap()) || !slices.Equal(asked.Output(), silent.Output()) {
			t.Errorf("P2: %s: %+v or %+v", c.name, asked.State(), silent.State())
		}
	}
}
