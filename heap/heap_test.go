package heap

import (
	"slices"
	"testing"

	"tint/api"
)

var blank = api.Cell{Colour: api.Free, A: api.None, B: api.None}

func TestNew(t *testing.T) {
	for _, count := range []int{1, 2, api.MaxCells} {
		h := New(count)
		if got := h.Cells(); !slices.Equal(got, slices.Repeat([]api.Cell{blank}, count)) {
			t.Errorf("P5: New(%d) has the cells %v", count, got)
		}
		if h.Phase() != api.Idle || h.Hand() != 0 {
			t.Errorf("P5: New(%d) is in the phase %d, the hand %d", count, h.Phase(), h.Hand())
		}
	}
	for _, count := range []int{0, -1} {
		h := New(count)
		if n := len(h.Cells()); n != 0 {
			t.Errorf("New(%d) has %d cells", count, n)
		}
	}
}

// Which colour a cell is taken with, in each phase, ahead of the hand and behind it.
func TestColourOfWhatIsTaken(t *testing.T) {
	const count = 4
	for k := range count {
		for hand := range count {
			for _, c := range []struct{ phase, hand, want int }{
				{api.Idle, 0, api.White},
				{api.Mark, 0, api.Black},
				{api.Sweep, hand, map[bool]int{true: api.White, false: api.Black}[k < hand]},
			} {
				for _, weak := range []bool{false, true} {
					h := New(count)
					for n := range k {
						h.cells[n].Colour = api.White
					}
					h.phase = c.phase
					h.hand = c.hand
					want := api.Cell{Colour: c.want, A: api.None, B: api.None}
					took, found := k, false
					if weak {
						want.Weak = true
						want.A = 2
						took, found = h.TakeWeak(2)
					} else {
						took, found = h.TakePlain()
					}
					if !found || took != k || h.cells[k] != want {
						t.Errorf("P8: phase %d, hand %d: took %d, %v: %+v, want %d: %+v", c.phase, c.hand, took, found, h.cells[took], k, want)
					}
					if h.phase != c.phase || h.hand != c.hand {
						t.Errorf("P8: taking a cell moved the collector")
					}
				}
			}
		}
	}
}

// Whatever cells are free, and whatever colours the others have: the free one of the smallest number is taken, and no other cell is touched.
func TestSmallestFreeIsTaken(t *testing.T) {
	const count = 5
	for pattern := range 1 << (2 * count) {
		h := New(count)
		want := -1
		for k := range count {
			h.cells[k].Colour = pattern >> (2 * k) & 3
			if want < 0 && h.cells[k].Colour == api.Free {
				want = k
			}
		}
		before := h.Cells()
		took, found := h.TakePlain()
		if want < 0 {
			if found || took != 0 || !slices.Equal(h.Cells(), before) {
				t.Errorf("P8: %v: took %d, %v, though none is free", before, took, found)
			}
			continue
		}
		before[want].Colour = api.White
		if !found || took != want || !slices.Equal(h.Cells(), before) {
			t.Errorf("P8: took %d, %v, want %d: %v", took, found, want, h.Cells())
		}
	}
}

// References that refer to no cell trap, and nothing is changed.
func TestTraps(t *testing.T) {
	h := New(2)
	h.TakePlain()
	h.TakeWeak(0)
	before := h.Cells()
	for _, c := range []struct{ r, plain, weak int }{
		{0, api.Running, api.TrapKind},
		{1, api.TrapKind, api.Running},
		{-1, api.TrapNull, api.TrapNull},
		{2, api.TrapNull, api.TrapNull},
		{1<<63 - 1, api.TrapNull, api.TrapNull},
		{-1 << 63, api.TrapNull, api.TrapNull},
	} {
		a, get := h.Get(c.r, 1)
		i, number := h.Number(c.r)
		got := []int{get, number}
		if c.plain != api.Running && (a != 0 || i != 0) {
			t.Errorf("reference %d: %d and %d beside a trap", c.r, a, i)
		}
		if c.plain != api.Running {
			got = append(got, h.Set(c.r, 0, 0), h.Note(c.r, 9))
		}
		for _, outcome := range got {
			if outcome != c.plain {
				t.Errorf("P7: reference %d to a plain cell: outcomes %v, want %d", c.r, got, c.plain)
			}
		}
		looked, peek := h.Peek(c.r)
		if peek != c.weak || looked != 0 {
			t.Errorf("P7: Peek of %d: %d, outcome %d, want 0, %d", c.r, looked, peek, c.weak)
		}
	}
	if !slices.Equal(h.Cells(), before) {
		t.Errorf("P7: a trap changed the heap: %v, was %v", h.Cells(), before)
	}
}

func TestReadAndWrite(t *testing.T) {
	h := New(3)
	h.TakePlain()
	h.TakePlain()
	h.TakeWeak(1)
	h.Set(0, 0, 1)
	h.Set(0, 1, 2)
	h.Set(1, 1, 0)
	h.Note(1, -5)
	want := []api.Cell{
		{Colour: api.White, A: 1, B: 2},
		{Colour: api.White, A: api.None, B: 0, Num: -5},
		{Colour: api.White, Weak: true, A: 1, B: api.None},
	}
	if !slices.Equal(h.Cells(), want) {
		t.Fatalf("P7: %v, want %v", h.Cells(), want)
	}
	a, _ := h.Get(0, 0)
	b, _ := h.Get(0, 1)
	number, _ := h.Number(1)
	looked, _ := h.Peek(2)
	if a != 1 || b != 2 || number != -5 || looked != 1 {
		t.Errorf("P7: read %d, %d, %d, %d", a, b, number, looked)
	}
}

func TestCellsAreFresh(t *testing.T) {
	h := New(3)
	first := h.Cells()
	first = first[:cap(first)]
	for k := range first {
		first[k] = api.Cell{Num: 77}
	}
	h.TakePlain()
	if h.cells[0].Num != 0 || first[0].Num != 77 || first[0].Colour != api.Free {
		t.Errorf("P2: the heap and a list that came out share memory")
	}
}
