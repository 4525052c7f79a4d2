package tint_test

import (
	"testing"

	"tint/api"
	"tint/tint"
)

// throwInputs: mostly small numbers, some at the bounds.
func throwInputs(d *dice) []int {
	list := make([]int, d.below(6))
	if d.below(20) == 0 {
		list = make([]int, api.MaxInputs)
	}
	bounds := []int{-1 << 63, 1<<63 - 1, -1<<63 + 1, 1 << 32, -1, 0}
	for k := range list {
		list[k] = d.below(7) - 3
		if d.below(4) == 0 {
			list[k] = bounds[d.below(len(bounds))]
		}
	}
	return list
}

// Thrown images, step by step against the story.
func TestThrownSteps(t *testing.T) {
	d := dice{11}
	var outcomes [6]int
	var done [25]int
	mixed := 0
	for k := 0; k < 24000 && !t.Failed(); k++ {
		locals := d.below(5)
		length := 1 + d.below(20)
		if k%4 == 0 {
			length = 1 + d.below(118)
		}
		x := image(locals, throwCode(&d, locals, length, 1000000)...)
		if tint.Check(x) != api.OK {
			continue
		}
		seen := along(t, x, throwInputs(&d), 1+d.below(api.MaxCells), 60)
		outcomes[seen.outcome]++
		mixed += seen.mixed
		for op := range done {
			done[op] += seen.done[op]
		}
	}
	t.Logf("outcomes %v; instructions done %v; Mixed %d", outcomes, done, mixed)
	// A throw that shows nothing tests nothing.
	for outcome, count := range outcomes {
		if count < 50 {
			t.Errorf("too few machines came to the outcome %d: %v", outcome, outcomes)
		}
	}
	for op, count := range done {
		if op != api.Halt && count < 200 {
			t.Errorf("too few of instruction %d were done: %v", op, done)
		}
	}
	if mixed < 5000 {
		t.Errorf("too few states with a Mixed local: %d", mixed)
	}
}
