// Package heap keeps the cells of a machine and collects those that nobody reaches.
package heap

import "tint/api"

// Heap is the cells of a machine, and how far the collector has come with them.
type Heap struct {
	cells []api.Cell
	phase int
	hand  int
}

// New answers a heap of so many cells, all free; the collector is Idle.
func New(count int) Heap {
	var h Heap
	for k := 0; k < count; k++ {
		h.cells = append(h.cells, plainCell())
	}
	return h
}

// plainCell answers what a free cell is like, and, but for its colour, one that New takes.
func plainCell() api.Cell {
	return api.Cell{A: api.None, B: api.None}
}

// Cells answers all cells in their order, as a fresh list.
func (h *Heap) Cells() []api.Cell {
	var list []api.Cell
	for _, cell := range h.cells {
		list = append(list, cell)
	}
	return list
}

// Phase answers the collector's phase.
func (h *Heap) Phase() int {
	return h.phase
}

// Hand answers the collector's hand.
func (h *Heap) Hand() int {
	return h.hand
}

// TakePlain takes a plain cell and answers its number; false, if no cell is free.
func (h *Heap) TakePlain() (int, bool) {
	return h.take(plainCell())
}

// TakeWeak takes a weak cell that looks at r and answers its number; false, if no cell is free.
func (h *Heap) TakeWeak(r int) (int, bool) {
	return h.take(api.Cell{Weak: true, A: r, B: api.None})
}

func (h *Heap) take(cell api.Cell) (int, bool) {
	for k := range h.cells {
		if h.cells[k].Colour == api.Free {
			cell.Colour = h.colourFor(k)
			h.cells[k] = cell
			return k, true
		}
	}
	return 0, false
}

// colourFor answers the colour with which cell k is taken: Black where the collector's round would else take it for one that nobody reaches.
func (h *Heap) colourFor(k int) int {
	if h.phase == api.Mark {
		return api.Black
	}
	if h.phase == api.Sweep && k >= h.hand {
		return api.Black
	}
	return api.White
}
