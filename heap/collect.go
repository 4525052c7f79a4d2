package heap

import "tint/api"

// Unit does one unit of the collector's work. The roots are what refers to cells from outside the heap.
func (h *Heap) Unit(roots []int) {
	switch h.phase {
	case api.Idle:
		h.shadeAll(roots)
		h.phase = api.Mark
	case api.Mark:
		h.mark(roots)
	case api.Sweep:
		h.sweep()
	}
}

// MakeRoom does units, if no cell is free, until one is or all are reachable.
func (h *Heap) MakeRoom(roots []int) {
	if h.hasFree() {
		return
	}
	h.finish(roots)
	if h.hasFree() {
		return
	}
	// The round that was under way may have kept what was let go since it began; a whole one keeps the reachable cells alone.
	h.Unit(roots)
	h.finish(roots)
}

// finish does units until the collector is Idle. It ends: no unit of the phase Mark takes a cell's paint away, and each but the last paints one; then the hand only grows.
func (h *Heap) finish(roots []int) {
	for h.phase != api.Idle {
		h.Unit(roots)
	}
}

func (h *Heap) hasFree() bool {
	for k := range h.cells {
		if h.cells[k].Colour == api.Free {
			return true
		}
	}
	return false
}

func (h *Heap) mark(roots []int) {
	cell := h.firstGrey()
	if cell != nil {
		h.blacken(cell)
		return
	}
	// The program has gone on since the roots were shaded last, and may have got hold of a White cell.
	h.shadeAll(roots)
	cell = h.firstGrey()
	if cell != nil {
		return
	}
	h.forgetWhite()
	h.phase = api.Sweep
	h.hand = 0
}

// blacken shades what a cell refers to, and is done with it. What a weak cell looks at is not kept by that.
func (h *Heap) blacken(cell *api.Cell) {
	if !cell.Weak {
		h.shade(cell.A)
		h.shade(cell.B)
	}
	cell.Colour = api.Black
}

// forgetWhite lets weak cells look no longer at what the sweep will free.
func (h *Heap) forgetWhite() {
	for k := range h.cells {
		if h.cells[k].Weak && h.has(h.cells[k].A, api.White) {
			h.cells[k].A = api.None
		}
	}
}

func (h *Heap) sweep() {
	k := h.hand
	if h.has(k, api.White) {
		h.cells[k] = plainCell()
	} else if h.has(k, api.Black) {
		h.cells[k].Colour = api.White
	}
	h.hand = k + 1
	if h.hand >= len(h.cells) {
		h.phase = api.Idle
		h.hand = 0
	}
}

func (h *Heap) shadeAll(list []int) {
	for _, r := range list {
		h.shade(r)
	}
}

// shade turns the cell that r refers to Grey, if there is one and it is White.
func (h *Heap) shade(r int) {
	if h.has(r, api.White) {
		h.cells[r].Colour = api.Grey
	}
}

// firstGrey answers the Grey cell of the smallest number; nil, if there is none.
func (h *Heap) firstGrey() *api.Cell {
	for k := range h.cells {
		if h.cells[k].Colour == api.Grey {
			return &h.cells[k]
		}
	}
	return nil
}

// has tells whether there is a cell r, and of that colour.
func (h *Heap) has(r, colour int) bool {
	return r >= 0 && r < len(h.cells) && h.cells[r].Colour == colour
}
