package tint_test

import (
	"testing"

	"tint/api"
	"tint/tint"
)

// run: P10, in the story.
func (s *story) run(units []int, steps int) api.End {
	taken := 0
	for ; taken < steps && s.outcome == api.Running; taken++ {
		if len(units) > 0 {
			for range units[taken%len(units)] {
				s.unit()
			}
		}
		s.step()
	}
	return api.End{Outcome: s.outcome, Value: s.value, Steps: taken, Output: s.out}
}

// Thrown images and blocks that let out what hangs on the units, against the story.
func TestThrownRuns(t *testing.T) {
	t.Parallel()
	d := dice{31}
	var outcomes [6]int
	hang := 0
	for k := 0; k < 4000 && !t.Failed(); k++ {
		x := throwBlocks(t, &d, tellingKinds)
		inputs := throwBits(&d)
		if k%3 == 0 {
			x = image(3, throwCode(&d, 3, 1+d.below(60), 1000000)...)
			inputs = throwInputs(&d)
			if tint.Check(x) != api.OK {
				continue
			}
		}
		cells := 1 + d.below(12)
		steps := d.below(250)
		units := throwUnits(&d)
		want := begin(t, x, inputs, cells).run(units, steps)
		runs(t, x, inputs, cells, units, steps, want)
		outcomes[want.Outcome]++
		if !sameEnd(want, begin(t, x, inputs, cells).run(nil, steps)) {
			hang++
		}
	}
	t.Logf("outcomes %v; ends that hang on the units %d", outcomes, hang)
	// A throw that shows nothing tests nothing.
	for outcome, count := range outcomes {
		if count < 20 {
			t.Errorf("too few runs came to the outcome %d: %v", outcome, outcomes)
		}
	}
	if hang < 200 {
		t.Errorf("too few ends hang on the units: %d", hang)
	}
}

// Runs of an image without Weak end the same, whatever the units (P14).
func TestRunsWithOtherUnits(t *testing.T) {
	t.Parallel()
	d := dice{37}
	var outcomes [6]int
	for k := 0; k < 400 && !t.Failed(); k++ {
		x := throwBlocks(t, &d, strongKinds)
		inputs := throwBits(&d)
		cells := 1 + d.below(api.MaxCells)
		steps := d.below(api.MaxSteps + 1)
		want, _ := tint.Run(x, inputs, cells, nil, steps)
		for range 4 {
			units := throwUnits(&d)
			got, err := tint.Run(x, inputs, cells, units, steps)
			if err != api.OK || !sameEnd(got, want) {
				t.Errorf("P14: Run(%x, %v, %d, %v, %d) = %+v, %d; with no units %+v", x, inputs, cells, units, steps, got, err, want)
			}
		}
		outcomes[want.Outcome]++
	}
	t.Logf("outcomes %v", outcomes)
	if outcomes[api.Running] < 50 || outcomes[api.Full] < 50 {
		t.Errorf("too few of a kind: outcomes %v", outcomes)
	}
}
