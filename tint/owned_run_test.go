package tint_test

import (
	"slices"
	"testing"

	"tint/api"
	"tint/tint"
)

// echo: lets out what comes in, and takes and lets go a cell each time.
var echo = image(1, api.In, api.Out, api.New, api.Weak, api.Drop, api.Jump, 0)

// Inputs and units are not written into, nor is their spare room, whether the run is refused or not.
func TestRunLeavesItsLists(t *testing.T) {
	inputs, units := []int{1, 2, 3, 4, 5, 6}, []int{0, 9, 1, 1000, -1, 4}
	for _, c := range []struct{ cells, units, steps int }{{2, 3, 40}, {2, 4, 2000}, {0, 3, 40}, {2, 5, 40}, {2, 3, -1}} {
		tint.Run(echo, inputs[:3], c.cells, units[:c.units], c.steps)
		if !slices.Equal(inputs, []int{1, 2, 3, 4, 5, 6}) || !slices.Equal(units, []int{0, 9, 1, 1000, -1, 4}) {
			t.Errorf("P2: %+v: Run wrote into what was handed in: %v, %v", c, inputs, units)
		}
	}
}

// One list may be handed in as both; what comes out shares no memory with it.
func TestRunSharesNothingWithItsLists(t *testing.T) {
	both := []int{3, 1, 4}
	got, err := tint.Run(echo, both, 2, both, 18)
	scribble(both, 77)
	if want := (api.End{Steps: 18, Output: []int{3, 1, 4}}); err != api.OK || !sameEnd(got, want) {
		t.Errorf("P2: Run = %+v, %d, want %+v", got, err, want)
	}
	scribble(got.Output, 55)
	if !slices.Equal(both, []int{77, 77, 77}) {
		t.Errorf("P2: what came out shares memory with what was handed in: %v", both)
	}
}

// What comes out is fresh each time, and a run that is made again ends the same, whatever was called between.
func TestRunAgain(t *testing.T) {
	inputs, units := []int{8, 9, 10}, []int{1, 0, 2}
	want := api.End{Steps: 26, Output: []int{8, 9, 10, 0, 0}}
	var room []int
	m := machine(t, echo, inputs, 2)
	for range 5 {
		first, _ := tint.Run(echo, inputs, 2, units, 26)
		second, _ := tint.Run(echo, inputs, 2, units, 26)
		scribble(first.Output, 77)
		if !sameEnd(second, want) {
			t.Errorf("P2: Run = %+v, want %+v", second, want)
		}
		for _, v := range room {
			if v != 77 {
				t.Errorf("P2: a later run wrote into what came out: %v", room)
			}
		}
		room = first.Output[:cap(first.Output)]
		tint.Run(image(0, api.Null, api.Number, api.Halt), nil, 1, nil, 9)
		tint.Run("", nil, 1, nil, 9)
		tint.Run(echo, inputs, 2, units, 2001)
		steps(t, m, 2)
		m.Collect(1)
	}
	if got := m.Output(); !slices.Equal(got, []int{8, 9}) {
		t.Errorf("P2: another machine let out %v", got)
	}
}

// A run is the calls New, Collect and Step, one behind the other.
func TestRunIsItsCalls(t *testing.T) {
	for _, c := range endings {
		for n, units := range someUnits {
			m := machine(t, c.x, []int{5, 6}, c.cells)
			taken := 0
			for ; taken < 9+n && m.State().Outcome == api.Running; taken++ {
				if len(units) > 0 {
					m.Collect(units[taken%len(units)])
				}
				m.Step()
			}
			s := m.State()
			runs(t, c.x, []int{5, 6}, c.cells, units, 9+n, api.End{Outcome: s.Outcome, Value: s.Value, Steps: taken, Output: m.Output()})
		}
	}
}
