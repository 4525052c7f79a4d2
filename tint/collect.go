package tint

import "tint/api"

// Collect does some units of the collector's work (P9).
func (m *Machine) Collect(units int) (int, api.Errno) {
	if !unitsFit(units) {
		return 0, api.ErrArg
	}
	roots := m.roots()
	for k := 0; k < units; k++ {
		m.heap.Unit(roots)
	}
	return m.heap.Phase(), api.OK
}

func unitsFit(units int) bool {
	return units >= 0 && units <= api.MaxUnits
}

// roots answers the references in locals and stack. They are those that State tells: a Mixed local is none, for nothing can be loaded from it until something else is stored there.
func (m *Machine) roots() []int {
	state := m.State()
	var list []int
	for _, slot := range state.Locals {
		if slot.Type == api.Ref {
			list = append(list, slot.V)
		}
	}
	for _, slot := range state.Stack {
		if slot.Type == api.Ref {
			list = append(list, slot.V)
		}
	}
	return list
}
