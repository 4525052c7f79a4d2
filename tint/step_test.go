package tint_test

import (
	"slices"
	"testing"

	"tint/api"
	"tint/tint"
)

// machine: a new one, which must be.
func machine(t *testing.T, x string, inputs []int, cells int) *tint.Machine {
	t.Helper()
	m, err := tint.New(x, inputs, cells)
	if m == nil || err != api.OK {
		t.Fatalf("P5: New(%x, %v, %d) = %v, %d", x, inputs, cells, m, err)
	}
	return m
}

// steps: so many steps, behind each of which the machine is Running.
func steps(t *testing.T, m *tint.Machine, count int) {
	t.Helper()
	for k := range count {
		if outcome, err := m.Step(); outcome != api.Running || err != api.OK {
			t.Fatalf("P7: step %d = %d, %d", k, outcome, err)
		}
	}
}

// Two inputs, an instruction that makes one number of them, Halt.
func TestTwoNumbers(t *testing.T) {
	for _, c := range []struct {
		op   byte
		i, j int
		want int
	}{
		{api.Add, 2, 3, 5},
		{api.Add, 2, -3, -1},
		{api.Add, greatest, 1, least},
		{api.Add, least, -1, greatest},
		{api.Add, least, least, 0},
		{api.Sub, 2, 3, -1},
		{api.Sub, 3, 2, 1},
		{api.Sub, 0, least, least},
		{api.Sub, least, 1, greatest},
		{api.Mul, 6, -7, -42},
		{api.Mul, 1 << 32, 1 << 32, 0},
		{api.Mul, 1 << 62, 2, least},
		{api.Mul, least, -1, least},
		{api.Mul, greatest, greatest, 1},
		{api.Div, 7, 2, 3},
		{api.Div, -7, 2, -3},
		{api.Div, 7, -2, -3},
		{api.Div, -7, -2, 3},
		{api.Div, 0, 5, 0},
		{api.Div, 1, 2, 0},
		{api.Div, -1, 2, 0},
		{api.Div, least, -1, least},
		{api.Div, least, 1, least},
		{api.Div, greatest, -1, -greatest},
		{api.Div, least, least, 1},
		{api.Div, greatest, least, 0},
		{api.Less, 2, 3, 1},
		{api.Less, 3, 2, 0},
		{api.Less, 2, 2, 0},
		{api.Less, -1, 0, 1},
		{api.Less, 0, -1, 0},
		{api.Less, least, greatest, 1},
		{api.Less, greatest, least, 0},
		{api.Less, least, least, 0},
		{api.Swap, 4, 9, 4},
		{api.Drop, 4, 9, 4},
		{api.Dup, 4, 9, 9},
		{api.Out, 4, 9, 4},
		{api.In, 4, 9, 0},
	} {
		m := machine(t, image(0, api.In, api.In, c.op, api.Halt), []int{c.i, c.j}, 1)
		steps(t, m, 3)
		outcome, err := m.Step()
		s := m.State()
		if outcome != api.Halted || err != api.OK || s.Outcome != api.Halted || s.Value != c.want {
			t.Errorf("P7: instruction %d of %d, %d: %d, %d, State %+v, want the value %d", c.op, c.i, c.j, outcome, err, s, c.want)
		}
	}
}

func TestByteOfEachOperand(t *testing.T) {
	for n := range 256 {
		want := n
		if n >= 128 {
			want = n - 256
		}
		m := machine(t, image(0, api.Byte, byte(n), api.Halt), nil, 1)
		m.Step()
		if s := m.State(); s.Place != 2 || !slices.Equal(s.Stack, number(want)) {
			t.Errorf("P7: Byte %d: State %+v", n, s)
		}
		m.Step()
		if s := m.State(); s.Value != want || s.Place != 2 || !slices.Equal(s.Stack, number(want)) {
			t.Errorf("P7: Halt with %d: State %+v", want, s)
		}
	}
}

// ending: an image whose last step but for so many ends the machine.
type ending struct {
	name    string
	x       string
	cells   int
	before  int // steps that leave it Running
	outcome int
	value   int
}

var endings = []ending{
	{"Halt", image(1, api.In, api.Null, api.Store, 0, api.Halt), 1, 3, api.Halted, 5},
	{"Halt with more below", image(0, api.New, api.In, api.In, api.Halt), 1, 3, api.Halted, 6},
	{"Halt with 0", image(0, api.Byte, 0, api.Halt), 1, 1, api.Halted, 0},
	{"Div by 0", image(0, api.In, api.Out, api.In, api.Byte, 0, api.Div, api.Halt), 1, 4, api.TrapDiv, 0},
	{"0 by 0", image(0, api.Byte, 0, api.Byte, 0, api.Div, api.Halt), 1, 2, api.TrapDiv, 0},
	{"Get 0 of None", image(0, api.Null, api.Get, 0, api.Drop, api.Jump, 0), 1, 1, api.TrapNull, 0},
	{"Get 1 of None", image(0, api.Null, api.Get, 1, api.Drop, api.Jump, 0), 1, 1, api.TrapNull, 0},
	{"Set 0 of None", image(0, api.Null, api.New, api.Set, 0, api.Jump, 0), 1, 2, api.TrapNull, 0},
	{"Set 1 of None to None", image(0, api.Null, api.Null, api.Set, 1, api.Jump, 0), 1, 2, api.TrapNull, 0},
	{"Number of None", image(0, api.Null, api.Number, api.Halt), 1, 1, api.TrapNull, 0},
	{"Note of None", image(0, api.Null, api.In, api.Note, api.Jump, 0), 1, 2, api.TrapNull, 0},
	{"Peek of None", image(0, api.Null, api.Peek, api.Drop, api.Jump, 0), 1, 1, api.TrapNull, 0},
	{"Get 0 of a weak cell", image(0, api.New, api.Weak, api.Get, 0, api.Drop, api.Jump, 0), 2, 2, api.TrapKind, 0},
	{"Get 1 of a weak cell", image(0, api.Null, api.Weak, api.Get, 1, api.Drop, api.Jump, 0), 2, 2, api.TrapKind, 0},
	{"Set 0 of a weak cell", image(0, api.New, api.Weak, api.New, api.Set, 0, api.Jump, 0), 3, 3, api.TrapKind, 0},
	{"Set 1 of a weak cell", image(0, api.New, api.Weak, api.Dup, api.Set, 1, api.Jump, 0), 2, 3, api.TrapKind, 0},
	{"Number of a weak cell", image(0, api.New, api.Weak, api.Number, api.Halt), 2, 2, api.TrapKind, 0},
	{"Note of a weak cell", image(0, api.New, api.Weak, api.In, api.Note, api.Jump, 0), 2, 3, api.TrapKind, 0},
	{"Peek of a plain cell", image(0, api.New, api.Dup, api.In, api.Note, api.Peek, api.Drop, api.Jump, 0), 2, 4, api.TrapKind, 0},
	{"New, no cell left", image(1, api.New, api.Store, 0, api.New, api.Drop, api.Jump, 3), 1, 2, api.Full, 0},
	{"New on the stack, no cell left", image(0, join(repeat(3, api.New), repeat(3, api.Drop), []byte{api.Jump, 0})...), 2, 2, api.Full, 0},
	{"Weak, no cell left", image(0, api.New, api.Weak, api.Drop, api.Jump, 0), 1, 1, api.Full, 0},
	{"Weak of None, no cell left", image(1, api.New, api.Store, 0, api.Null, api.Weak, api.Drop, api.Jump, 3), 1, 3, api.Full, 0},
	{"Weak of Weak, no cell left", image(1, api.New, api.Dup, api.Store, 0, api.Weak, api.Weak, api.Drop, api.Jump, 0), 2, 4, api.Full, 0},
}

// What ends a machine leaves place, locals, stack, output and heap as they were; steps behind it answer ErrDone and change nothing.
func TestEndings(t *testing.T) {
	for _, c := range endings {
		m := machine(t, c.x, []int{5, 6}, c.cells)
		steps(t, m, c.before)
		state, cells, out := m.State(), m.Heap(), m.Output()
		if state.Outcome != api.Running || state.Value != 0 {
			t.Errorf("P6: %s: ahead of its end: State %+v", c.name, state)
		}
		outcome, err := m.Step()
		if outcome != c.outcome || err != api.OK {
			t.Errorf("P7: %s: Step = %d, %d, want %d", c.name, outcome, err, c.outcome)
		}
		state.Outcome = c.outcome
		state.Value = c.value
		for range 3 {
			if got := m.State(); !sameState(got, state) {
				t.Errorf("P7: %s: State %+v, want %+v", c.name, got, state)
			}
			if got := m.Heap(); !slices.Equal(got, cells) {
				t.Errorf("P7: %s: Heap %+v, want %+v", c.name, got, cells)
			}
			if got := m.Output(); !slices.Equal(got, out) {
				t.Errorf("P7: %s: Output %v, want %v", c.name, got, out)
			}
			if outcome, err := m.Step(); outcome != 0 || err != api.ErrDone {
				t.Errorf("P7: %s: a step behind the end = %d, %d", c.name, outcome, err)
			}
		}
	}
}

// The document's examples, step by step against the story, with no units, few and many.
func TestStepsOfExamples(t *testing.T) {
	for _, c := range []struct {
		text    string
		inputs  []int
		cells   int
		limit   int
		outcome int
		value   int
		steps   int
		out     []int
	}{
		{"54 00 01 07 00", nil, 1, 5, api.Halted, 7, 2, nil},
		{"54 00 01 07 00", nil, 1, 1, api.Running, 0, 1, nil},
		{"54 00 01 07 00", nil, 1, 2, api.Halted, 7, 2, nil},
		{"54 00 01 f9 01 00 05 00", nil, 1, 99, api.TrapDiv, 0, 3, nil},
		{"54 00 01 f9 01 02 05 00", nil, 1, 99, api.Halted, -3, 4, nil},
		{"54 00 0c 10 00", nil, 1, 99, api.TrapNull, 0, 2, nil},
		{"54 00 0d 18 0a 01 00 00", nil, 1, 99, api.TrapKind, 0, 2, nil},
		{"54 00 15 16 13 00", []int{5, -6}, 1, 7, api.Running, 0, 7, []int{5, -6}},
		{"54 00 0d 0a 13 00", nil, 1, 2000, api.Running, 0, 2000, nil},
		{"54 01 0d 08 00 0d 07 00 0f 00 07 00 10 00", nil, 1, 99, api.Full, 0, 3, nil},
		{"54 01 0d 08 00 0d 07 00 0f 00 07 00 10 00", nil, 2, 99, api.Halted, 0, 8, nil},
		{"54 01 0c 08 00 0d 09 07 00 0f 00 08 00 13 03", nil, 4, 100, api.Full, 0, 27, nil},
		{"54 00 0d 17 18 0a 01 00 00", nil, 2, 99, api.Halted, 0, 6, nil},
		{"54 00 0d 17 18 0a 01 00 00", nil, 1, 99, api.Full, 0, 2, nil},
	} {
		x := bytesOf(t, c.text)
		for _, units := range []int{0, 1, 2, 3, 1000} {
			if units < 1000 || c.limit < 1000 {
				along(t, x, c.inputs, c.cells, c.limit, units)
			}
			m := machine(t, x, c.inputs, c.cells)
			taken := 0
			for taken < c.limit && m.State().Outcome == api.Running {
				m.Collect(units)
				m.Step()
				taken++
			}
			s := m.State()
			if s.Outcome != c.outcome || s.Value != c.value || taken != c.steps || !slices.Equal(m.Output(), c.out) {
				t.Errorf("P7: example %s, %d cells, %d units: %+v, %d steps, out %v", c.text, c.cells, units, s, taken, m.Output())
			}
		}
	}
}

// Inputs come in their order, all of them; then noughts.
func TestInputs(t *testing.T) {
	x := image(0, api.In, api.Out, api.Jump, 0)
	for _, count := range []int{0, 1, 2, api.MaxInputs} {
		var inputs []int
		for k := range count {
			inputs = append(inputs, 100-k)
		}
		m := machine(t, x, inputs, 1)
		steps(t, m, 3*(count+3))
		if got := m.Output(); !slices.Equal(got, append(inputs, 0, 0, 0)) {
			t.Errorf("P7: %d inputs: out came %v", count, got)
		}
	}
}

// More comes out than any list could be expected to hold.
func TestMuchOutput(t *testing.T) {
	m := machine(t, image(1, api.Load, 0, api.Out, api.Load, 0, api.Byte, 1, api.Add, api.Store, 0, api.Jump, 0), nil, 1)
	steps(t, m, 7*5000)
	out := m.Output()
	if len(out) != 5000 {
		t.Fatalf("P6: %d numbers came out", len(out))
	}
	for k, v := range out {
		if v != k {
			t.Fatalf("P6: number %d that came out is %d", k, v)
		}
	}
}

// Branch and Jump, ahead and back.
func TestJumps(t *testing.T) {
	for _, c := range []struct {
		in, place int
	}{{0, 3}, {1, 6}, {-1, 6}, {least, 6}, {1 << 32, 6}} {
		m := machine(t, image(0, api.In, api.Branch, 6, api.Byte, 1, api.Halt, api.In, api.Halt), []int{c.in}, 1)
		steps(t, m, 2)
		if s := m.State(); s.Place != c.place || len(s.Stack) != 0 {
			t.Errorf("P7: Branch with %d: State %+v, want the place %d", c.in, s, c.place)
		}
	}
	m := machine(t, image(0, api.Jump, 4, api.In, api.Halt, api.Jump, 2), nil, 1)
	for _, place := range []int{4, 2, 3} {
		steps(t, m, 1)
		if s := m.State(); s.Place != place {
			t.Errorf("P7: Jump: State %+v, want the place %d", s, place)
		}
	}
}

// All locals and a full stack hold what was laid there, references beside numbers.
func TestFullStackAndLocals(t *testing.T) {
	x := image(4, api.New, api.Store, 0, api.In, api.Store, 1, api.New, api.Store, 2, api.In, api.Store, 3, api.Load, 3, api.Load, 2, api.Load, 1, api.Load, 0, api.Null, api.Swap, api.Dup, api.In, api.Halt)
	m := machine(t, x, []int{7, -8, 9}, 2)
	steps(t, m, 16)
	s := m.State()
	locals := slices.Concat(refer(0), number(7), refer(1), number(-8))
	stack := slices.Concat(number(-8), refer(1), number(7), refer(-1), refer(0), refer(0), number(9))
	if s.Place != 24 || !slices.Equal(s.Locals, locals) || !slices.Equal(s.Stack, stack) {
		t.Errorf("P6: State %+v, want %v and %v", s, locals, stack)
	}
	m = machine(t, image(0, join(repeat(8, api.In), repeat(7, api.Out), []byte{api.Halt})...), []int{1, 2, 3, 4, 5, 6, 7, 8}, 1)
	steps(t, m, 15)
	if got := m.Output(); !slices.Equal(got, []int{8, 7, 6, 5, 4, 3, 2}) {
		t.Errorf("P7: out came %v", got)
	}
}

// A Mixed local is told as 0, whatever it holds; once something is stored there that is told.
func TestMixedLocalsOfMachines(t *testing.T) {
	x := image(2, api.Byte, 6, api.Store, 0, api.In, api.Branch, 12, api.New, api.Drop, api.New, api.Store, 0, api.In, api.Store, 0, api.In, api.Halt)
	for _, c := range []struct {
		in, before int
	}{{0, 8}, {1, 4}} {
		m := machine(t, x, []int{c.in, 3}, 4)
		steps(t, m, c.before)
		for _, want := range []api.State{
			{Place: 12, Locals: []api.Slot{{Type: api.Mixed}, {}}},
			{Place: 13, Locals: []api.Slot{{Type: api.Mixed}, {}}, Stack: number(3)},
			{Place: 15, Locals: []api.Slot{{Type: api.Int, V: 3}, {}}},
		} {
			if got := m.State(); !sameState(got, want) {
				t.Errorf("P6: first input %d: State %+v, want %+v", c.in, got, want)
			}
			m.Step()
		}
	}
}

// The free cell of the smallest number is taken, White, by New and by Weak, up to the last one.
func TestCellsAreTakenInOrder(t *testing.T) {
	x := image(1, api.New, api.Weak, api.Store, 0, api.Jump, 0)
	m := machine(t, x, nil, api.MaxCells)
	want := m.Heap()
	for k := 0; k < api.MaxCells; k += 2 {
		steps(t, m, 1)
		want[k] = api.Cell{Colour: api.White, A: -1, B: -1}
		if got := m.Heap(); !slices.Equal(got, want) || !slices.Equal(m.State().Stack, refer(k)) {
			t.Errorf("P8: Heap %+v, want %+v; State %+v", got, want, m.State())
		}
		steps(t, m, 1)
		want[k+1] = api.Cell{Colour: api.White, Weak: true, A: k, B: -1}
		if got := m.Heap(); !slices.Equal(got, want) || !slices.Equal(m.State().Stack, refer(k+1)) {
			t.Errorf("P8: Heap %+v, want %+v; State %+v", got, want, m.State())
		}
		steps(t, m, 2)
	}
}

// References A and B and the number of a cell are its own; a cell may refer to itself, and None may be set again.
func TestReferencesAndNumbers(t *testing.T) {
	x := image(2,
		api.New, api.Store, 0, api.New, api.Store, 1,
		api.Load, 0, api.Load, 1, api.Set, 0,
		api.Load, 0, api.Load, 0, api.Set, 1,
		api.Load, 1, api.In, api.Note,
		api.Load, 0, api.Get, 0, api.Number, api.Out,
		api.Load, 0, api.Get, 1, api.Number, api.Out,
		api.Load, 0, api.Null, api.Set, 1,
		api.Load, 0, api.Get, 1, api.Null, api.Same, api.Out,
		api.Load, 0, api.Get, 0, api.Load, 1, api.Same, api.Out,
		api.Load, 0, api.Load, 1, api.Same, api.Out,
		api.Jump, 0)
	m := machine(t, x, []int{least}, 5)
	steps(t, m, 13)
	want := []api.Cell{{Colour: api.White, A: 1, B: 0}, {Colour: api.White, A: -1, B: -1, Num: least}}
	if got := m.Heap(); !slices.Equal(got[:2], want) {
		t.Errorf("P7: Heap %+v, want %+v", got, want)
	}
	steps(t, m, 25)
	want[0].B = -1
	if got := m.Heap(); !slices.Equal(got[:2], want) {
		t.Errorf("P7: Heap %+v, want %+v", got, want)
	}
	if got := m.Output(); !slices.Equal(got, []int{least, 0, 1, 1, 0}) {
		t.Errorf("P7: out came %v", got)
	}
}
