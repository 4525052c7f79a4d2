package tint_test

import (
	"slices"
	"testing"

	"tint/api"
	"tint/tint"
)

// block: a piece of code between whose ends cells are taken, tied and let go; a, b and n are the operands that it is written with, next the place behind it. Locals 0 to 2 have plain cells, local 3 a weak one.
func block(kind int, a, b, n, next byte) []byte {
	switch kind {
	case 0:
		return []byte{api.New, api.Dup, api.Load, a, api.Set, n, api.Store, b}
	case 1:
		return []byte{api.Load, a, api.Load, b, api.Store, a, api.Store, b}
	case 2:
		return []byte{api.Load, a, api.Load, b, api.Set, n}
	case 3:
		return []byte{api.Load, a, api.Get, n, api.Null, api.Same, api.Branch, next, api.Load, a, api.Get, n, api.Store, b}
	case 4:
		return []byte{api.New, api.Store, a}
	case 5:
		return []byte{api.Load, a, api.Null, api.Set, n}
	case 6: // what a refers to goes over to b, and lies for a while on the stack alone
		return []byte{api.Load, a, api.Get, n, api.Load, a, api.Null, api.Set, n, api.Load, b, api.Swap, api.Set, n}
	case 7:
		return []byte{api.Load, a, api.Load, b, api.Number, api.Byte, 1, api.Add, api.Note}
	case 8:
		return []byte{api.Load, a, api.Number, api.Out}
	case 9:
		return []byte{api.Load, a, api.Load, b, api.Same, api.Out}
	case 10:
		return []byte{api.Load, a, api.Weak, api.Store, 3}
	case 11:
		return []byte{api.Load, 3, api.Peek, api.Null, api.Same, api.Branch, next, api.Load, 3, api.Peek, api.Store, b}
	case 12:
		return []byte{api.Load, a, api.Load, 3, api.Peek, api.Set, n}
	case 13: // a cell that from the start is looked at alone
		return []byte{api.New, api.Weak, api.Store, 3}
	case 14:
		return []byte{api.Load, 3, api.Weak, api.Store, 3}
	}
	return []byte{api.Load, 3, api.Peek, api.Null, api.Same, api.Out}
}

// The kinds of blocks that are thrown, each as often as it should come; strong are those without Weak, telling those that let out what hangs on the units.
var (
	strongKinds  = []int{0, 0, 0, 0, 1, 2, 3, 3, 4, 5, 6, 6, 7, 8, 9}
	weakKinds    = []int{0, 0, 0, 0, 0, 0, 1, 2, 3, 3, 3, 3, 4, 5, 6, 6, 6, 10, 10, 11, 11, 11, 11, 12, 12, 12, 12, 13, 13, 13, 14}
	tellingKinds = []int{0, 1, 2, 3, 4, 5, 6, 7, 8, 9, 10, 11, 12, 13, 13, 15, 15, 15, 15}
)

// throwBlocks: an image that goes round and round through blocks, and leaves one out where an input is not 0.
func throwBlocks(t *testing.T, d *dice, kinds []int) string {
	t.Helper()
	code := []byte{api.New, api.Dup, api.Store, 0, api.Dup, api.Store, 1, api.Store, 2}
	if slices.Contains(kinds, 10) {
		code = append(code, api.Null, api.Weak, api.Store, 3)
	}
	start := byte(len(code))
	for {
		kind, a, b, n := kinds[d.below(len(kinds))], byte(d.below(3)), byte(d.below(3)), byte(d.below(2))
		if (kind == 0 || kind == 3) && d.below(3) > 0 {
			b = a // a list that grows, or is gone down
		}
		length := 3 + len(block(kind, a, b, n, 0))
		if len(code)+length+2 > api.MaxCode {
			break
		}
		next := byte(len(code) + length)
		if d.below(4) == 0 {
			code = append(code, api.In, api.Branch, next)
		} else {
			next -= 3
		}
		code = append(code, block(kind, a, b, n, next)...)
	}
	code = append(code, api.Jump, start)
	x := image(4, code...)
	if err := tint.Check(x); err != api.OK {
		t.Fatalf("P3: Check(%x) = %d", x, err)
	}
	return x
}

// throwBits: inputs for throwBlocks.
func throwBits(d *dice) []int {
	list := make([]int, api.MaxInputs)
	for k := range list {
		list[k] = d.below(2)
	}
	return list
}

// Blocks thrown together, with units between the steps, against the story; P11 to P13 and P15 behind every call.
func TestThrownBlocks(t *testing.T) {
	t.Parallel()
	d := dice{17}
	var outcomes [6]int
	var met deeds
	for k := 0; k < 2500 && !t.Failed(); k++ {
		x := throwBlocks(t, &d, weakKinds)
		cells := 1 + d.below(12)
		if k%16 == 0 {
			cells = 1 + d.below(api.MaxCells)
		}
		seen := along(t, x, throwBits(&d), cells, 40+d.below(200), throwUnits(&d)...)
		outcomes[seen.outcome]++
		met.add(seen.deeds)
	}
	t.Logf("outcomes %v; met %+v", outcomes, met)
	// A throw that shows nothing tests nothing.
	if outcomes[api.Running] < 300 || outcomes[api.Full] < 300 || met.least() < 80 {
		t.Errorf("too few of a kind: outcomes %v; met %+v", outcomes, met)
	}
}

// plot: locals, stack and reachable cells, the cells numbered in the order in which they are come upon: what it tells does not hang on their numbers in the heap.
func plot(told api.State, cells []api.Cell) []int {
	var list, order []int
	number := func(r int) int {
		if r == -1 {
			return -1
		}
		if !slices.Contains(order, r) {
			order = append(order, r)
		}
		return slices.Index(order, r)
	}
	for _, slot := range slices.Concat(told.Locals, told.Stack) {
		v := slot.V
		if slot.Type == api.Ref {
			v = number(v)
		}
		list = append(list, slot.Type, v)
	}
	for k := 0; k < len(order); k++ {
		c := cells[order[k]]
		list = append(list, number(c.A), number(c.B), c.Num)
	}
	return append(list, told.Outcome, told.Value, told.Place)
}

// Machines of one image without Weak tell the same, whatever units are done (P14).
func TestUnitsChangeNothing(t *testing.T) {
	t.Parallel()
	d := dice{23}
	var outcomes [6]int
	moved := 0
	for k := 0; k < 1500 && !t.Failed(); k++ {
		x := throwBlocks(t, &d, strongKinds)
		inputs := throwBits(&d)
		if k%3 == 0 {
			x = image(3, throwCode(&d, 3, 1+d.below(60), 1000000)...)
			inputs = throwInputs(&d)
			if tint.Check(x) != api.OK || hasWeak(x) {
				continue
			}
		}
		cells := 1 + d.below(8)
		first, second := machine(t, x, inputs, cells), machine(t, x, inputs, cells)
		early, late := throwUnits(&d), throwUnits(&d)
		for n := 0; n < 200 && first.State().Outcome == api.Running && !t.Failed(); n++ {
			if len(early) > 0 {
				first.Collect(early[n%len(early)])
			}
			if len(late) > 0 {
				second.Collect(late[n%len(late)])
			}
			first.Step()
			second.Step()
			a, b := first.State(), second.State()
			if one, two := plot(a, first.Heap()), plot(b, second.Heap()); !slices.Equal(one, two) {
				t.Errorf("P14: %x, inputs %v, %d cells, step %d, units %v or %v: %v or %v", x, inputs, cells, n, early, late, one, two)
			}
			if !slices.Equal(first.Output(), second.Output()) {
				t.Errorf("P14: %x: out came %v or %v", x, first.Output(), second.Output())
			}
			if !slices.Equal(roots(a), roots(b)) {
				moved++
			}
		}
		outcomes[first.State().Outcome]++
	}
	t.Logf("outcomes %v; roots with other numbers %d", outcomes, moved)
	if outcomes[api.Running] < 200 || outcomes[api.Full] < 200 || moved < 5000 {
		t.Errorf("too few of a kind: outcomes %v, moved %d", outcomes, moved)
	}
}

func hasWeak(x string) bool {
	points, _ := reference(x)
	for _, p := range points {
		if x[2+p.Place] == api.Weak {
			return true
		}
	}
	return false
}
