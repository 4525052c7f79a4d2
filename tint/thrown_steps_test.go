package tint_test

import (
	"testing"

	"tint/api"
	"tint/tint"
)

// throwInputs: mostly small numbers, some at the bounds.
func throwInputs(d *dice) []int {
	list := make([]int, d.below(6))
	if d.below(20) == 0 {
		list = make([]int, api.MaxInputs)
	}
	bounds := []int{-1 << 63, 1<<63 - 1, -1<<63 + 1, 1 << 32, -1, 0}
	for k := range list {
		list[k] = d.below(7) - 3
		if d.below(4) == 0 {
			list[k] = bounds[d.below(len(bounds))]
		}
	}
	return list
}

// throwUnits: none at all, one now and then, some each time, or many.
func throwUnits(d *dice) []int {
	list := make([]int, d.below(12))
	most := []int{1, 1, 1, 3, 40}[d.below(5)]
	seldom := 1
	if most == 1 {
		seldom = 1 + d.below(8)
	}
	for k := range list {
		if d.below(seldom) == 0 {
			list[k] = d.below(most + 1)
		}
	}
	return list
}

// Thrown images, step by step against the story, with units thrown between the steps.
func TestThrownSteps(t *testing.T) {
	t.Parallel()
	d := dice{11}
	var outcomes [6]int
	var done [25]int
	var met deeds
	mixed := 0
	for k := 0; k < 12000 && !t.Failed(); k++ {
		locals := d.below(5)
		length := 1 + d.below(20)
		if k%4 == 0 {
			length = 1 + d.below(118)
		}
		x := image(locals, throwCode(&d, locals, length, 1000000)...)
		if tint.Check(x) != api.OK {
			continue
		}
		cells := 1 + d.below(4)
		if k%8 == 0 {
			cells = 1 + d.below(api.MaxCells)
		}
		seen := along(t, x, throwInputs(&d), cells, 60, throwUnits(&d)...)
		outcomes[seen.outcome]++
		mixed += seen.mixed
		met.add(seen.deeds)
		for op := range done {
			done[op] += seen.done[op]
		}
	}
	t.Logf("outcomes %v; instructions done %v; Mixed %d; met %+v", outcomes, done, mixed, met)
	// A throw that shows nothing tests nothing.
	for outcome, count := range outcomes {
		if count < 50 {
			t.Errorf("too few machines came to the outcome %d: %v", outcome, outcomes)
		}
	}
	for op, count := range done {
		if op != api.Halt && count < 200 {
			t.Errorf("too few of instruction %d were done: %v", op, done)
		}
	}
	if mixed < 5000 {
		t.Errorf("too few states with a Mixed local: %d", mixed)
	}
}
