package heap

import "tint/api"

// Of the calls here each answers an outcome: Running, or the trap that kept it from its cell.

// find answers the cell that r refers to, if it is of the wanted kind.
func (h *Heap) find(r int, weak bool) (*api.Cell, int) {
	if r < 0 || r >= len(h.cells) {
		return nil, api.TrapNull
	}
	cell := &h.cells[r]
	if cell.Weak != weak {
		return nil, api.TrapKind
	}
	return cell, api.Running
}

// Get answers A (n is 0) or B of the plain cell r.
func (h *Heap) Get(r, n int) (int, int) {
	cell, outcome := h.find(r, false)
	if cell == nil {
		return 0, outcome
	}
	if n == 0 {
		return cell.A, outcome
	}
	return cell.B, outcome
}

// Set makes s the A (n is 0) or B of the plain cell r.
func (h *Heap) Set(r, n, s int) int {
	cell, outcome := h.find(r, false)
	if cell == nil {
		return outcome
	}
	if h.phase == api.Mark {
		// The cell r may be Black: the collector would not look there again.
		h.shade(s)
	}
	if n == 0 {
		cell.A = s
	} else {
		cell.B = s
	}
	return outcome
}

// Number answers the number of the plain cell r.
func (h *Heap) Number(r int) (int, int) {
	cell, outcome := h.find(r, false)
	if cell == nil {
		return 0, outcome
	}
	return cell.Num, outcome
}

// Note makes i the number of the plain cell r.
func (h *Heap) Note(r, i int) int {
	cell, outcome := h.find(r, false)
	if cell == nil {
		return outcome
	}
	cell.Num = i
	return outcome
}

// Peek answers what the weak cell r looks at.
func (h *Heap) Peek(r int) (int, int) {
	cell, outcome := h.find(r, true)
	if cell == nil {
		return 0, outcome
	}
	return cell.A, outcome
}
