package tint

import "tint/api"

// Run runs an image (P10).
func Run(image string, inputs []int, cells int, units []int, steps int) (api.End, api.Errno) {
	m, err := New(image, inputs, cells)
	if err != api.OK {
		return api.End{}, err
	}
	if !allUnitsFit(units) || steps < 0 || steps > api.MaxSteps {
		return api.End{}, api.ErrArg
	}
	taken := m.run(units, steps)
	output := m.Output()
	return api.End{Outcome: m.outcome, Value: m.value, Steps: taken, Output: output}, api.OK
}

// allUnitsFit looks at the whole list, for a number may not be there even if the run ends ahead of its turn.
func allUnitsFit(units []int) bool {
	for _, count := range units {
		if !unitsFit(count) {
			return false
		}
	}
	return true
}

// run takes at most so many steps, with units ahead of each, and answers how many were taken.
func (m *Machine) run(units []int, most int) int {
	taken := 0
	for taken < most && m.outcome == api.Running {
		if len(units) > 0 {
			m.Collect(units[taken%len(units)])
		}
		m.Step()
		taken++
	}
	return taken
}
