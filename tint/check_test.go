package tint_test

import (
	"strings"
	"testing"

	"tint/api"
	"tint/tint"
)

type checkCase struct {
	name string
	x    string
	want api.Errno
}

// expect: Check's answer, and that Maps tells the same error and nothing beside it.
func expect(t *testing.T, cases []checkCase) {
	t.Helper()
	for _, c := range cases {
		if got := tint.Check(c.x); got != c.want {
			t.Errorf("P3: %s: Check(%.80q) = %d, want %d", c.name, c.x, got, c.want)
		}
		points, got := tint.Maps(c.x)
		if got != c.want {
			t.Errorf("P4: %s: Maps(%.80q) answers the error %d, want %d", c.name, c.x, got, c.want)
		}
		if c.want != api.OK && points != nil {
			t.Errorf("P1: %s: Maps(%.80q) answers %v beside the error %d", c.name, c.x, points, got)
		}
		if c.want == api.OK && len(points) == 0 {
			t.Errorf("P4: %s: Maps(%.80q) answers no points", c.name, c.x)
		}
	}
}

func TestExamples(t *testing.T) {
	for _, c := range []struct {
		text string
		want api.Errno
	}{
		{"54 00 01 07 00", api.OK},
		{"54 00 01 f9 01 00 05 00", api.OK},
		{"54 00 01 f9 01 02 05 00", api.OK},
		{"54 00 0c 10 00", api.OK},
		{"54 00 0d 18 0a 01 00 00", api.OK},
		{"54 00 15 16 13 00", api.OK},
		{"54 00 0d 0a 13 00", api.OK},
		{"54 01 0d 08 00 0d 07 00 0f 00 07 00 10 00", api.OK},
		{"54 01 0c 08 00 0d 09 07 00 0f 00 08 00 13 03", api.OK},
		{"54 00 0d 17 18 0a 01 00 00", api.OK},
		{"54 00 01 01 14 04 00", api.ErrType},
		{"54 00 01 01 14 01 00", api.ErrJump},
		{"54 00 01 01 09", api.ErrEnd},
		{"54 00 19", api.ErrCode},
		{"54 01 07 01 00", api.ErrCode},
		{"54 05 01 01 00", api.ErrShape},
		{"54 01 01 01 14 07 0c 08 00 07 00 0a 01 00 00", api.ErrType},
		{"54 01 01 01 14 07 0c 08 00 01 00 00", api.OK},
	} {
		expect(t, []checkCase{{"example " + c.text, bytesOf(t, c.text), c.want}})
	}
}

func TestShape(t *testing.T) {
	longest := image(0, join(repeat(59, api.Null, api.Drop), []byte{api.Jump, 0})...)
	expect(t, []checkCase{
		{"no bytes", "", api.ErrShape},
		{"1 byte", "T", api.ErrShape},
		{"2 bytes", "T\x00", api.ErrShape},
		{"2 bytes, both wrong", "\x00\xff", api.ErrShape},
		{"3 bytes, well shaped", image(0, api.Halt), api.ErrType},
		{"3 bytes, well shaped, another", image(4, api.Jump), api.ErrCode},
		{"122 bytes", longest, api.OK},
		{"123 bytes", longest + "\x00", api.ErrShape},
		{"123 bytes, well typed", image(0, join(repeat(59, api.Null, api.Drop), []byte{api.In, api.In, api.Halt})...), api.ErrShape},
		{"very long", strings.Repeat("T\x00", 1<<20), api.ErrShape},
		{"a small t", "t\x00\x01\x07\x00", api.ErrShape},
		{"a nought ahead", "\x00T\x00\x01\x07\x00", api.ErrShape},
		{"byte 0xd4", "\xd4\x00\x01\x07\x00", api.ErrShape},
		{"0 locals", image(0, api.Byte, 7, api.Halt), api.OK},
		{"4 locals", image(4, api.Byte, 7, api.Halt), api.OK},
		{"5 locals", image(5, api.Byte, 7, api.Halt), api.ErrShape},
		{"128 locals", image(128, api.Byte, 7, api.Halt), api.ErrShape},
		{"255 locals", image(255, api.Byte, 7, api.Halt), api.ErrShape},
		{"the digit 0 locals", "T0\x01\x07\x00", api.ErrShape},
	})
}

func TestCode(t *testing.T) {
	expect(t, []checkCase{
		{"byte 24 is an instruction", image(0, api.Peek), api.ErrEnd},
		{"byte 25 is none", image(0, 25), api.ErrCode},
		{"byte 255 is none", image(0, 255), api.ErrCode},
		{"none behind an end", image(0, api.Byte, 7, api.Halt, 25), api.ErrCode},
		{"none that no way reaches", image(0, api.Jump, 3, 25, api.Jump, 3), api.ErrCode},
		{"25 as an operand", image(0, api.Byte, 25, api.Halt), api.OK},
		{"255 as an operand", image(0, api.Byte, 255, api.Halt), api.OK},
		{"Byte's operand missing", image(0, api.Byte), api.ErrCode},
		{"Load's operand missing", image(1, api.Byte, 0, api.Load), api.ErrCode},
		{"Store's operand missing", image(1, api.Byte, 0, api.Store), api.ErrCode},
		{"Get's operand missing", image(0, api.Null, api.Get), api.ErrCode},
		{"Set's operand missing", image(0, api.Null, api.Null, api.Set), api.ErrCode},
		{"Jump's operand missing", image(0, api.Jump), api.ErrCode},
		{"Branch's operand missing", image(0, api.Byte, 0, api.Branch), api.ErrCode},
		{"Load, no locals", image(0, api.Load, 0, api.Halt), api.ErrCode},
		{"Load, the last local", image(4, api.Load, 3, api.Halt), api.OK},
		{"Load, behind the last local", image(4, api.Load, 4, api.Halt), api.ErrCode},
		{"Load 255", image(4, api.Load, 255, api.Halt), api.ErrCode},
		{"Store, the last local", image(1, api.In, api.Store, 0, api.Jump, 0), api.OK},
		{"Store, behind the last local", image(1, api.In, api.Store, 1, api.Jump, 0), api.ErrCode},
		{"Store, no locals", image(0, api.In, api.Store, 0, api.Jump, 0), api.ErrCode},
		{"Get 0", image(0, api.New, api.Get, 0, api.Drop, api.Jump, 0), api.OK},
		{"Get 1", image(0, api.New, api.Get, 1, api.Drop, api.Jump, 0), api.OK},
		{"Get 2", image(4, api.New, api.Get, 2, api.Drop, api.Jump, 0), api.ErrCode},
		{"Set 0", image(0, api.New, api.Null, api.Set, 0, api.Jump, 0), api.OK},
		{"Set 1", image(0, api.New, api.Null, api.Set, 1, api.Jump, 0), api.OK},
		{"Set 2", image(4, api.New, api.Null, api.Set, 2, api.Jump, 0), api.ErrCode},
		{"Set 128", image(4, api.New, api.Null, api.Set, 128, api.Jump, 0), api.ErrCode},
	})
}

func TestJump(t *testing.T) {
	filled := join(repeat(59, api.Null, api.Drop), []byte{api.Jump})
	expect(t, []checkCase{
		{"to itself", image(0, api.Jump, 0), api.OK},
		{"to its own operand", image(0, api.Jump, 1), api.ErrJump},
		{"behind the code", image(0, api.Jump, 2), api.ErrJump},
		{"far behind the code", image(0, api.Jump, 119), api.ErrJump},
		{"to 120", image(0, api.Jump, 120), api.ErrJump},
		{"to 121", image(0, api.Jump, 121), api.ErrJump},
		{"to 255", image(0, api.Jump, 255), api.ErrJump},
		{"full code, to its last instruction", image(0, join(filled, []byte{118})...), api.OK},
		{"full code, to its last byte", image(0, join(filled, []byte{119})...), api.ErrJump},
		{"full code, to 120", image(0, join(filled, []byte{120})...), api.ErrJump},
		{"full code, to 121", image(0, join(filled, []byte{121})...), api.ErrJump},
		{"full code, to 255", image(0, join(filled, []byte{255})...), api.ErrJump},
		{"to an operand that is an instruction's byte", image(0, api.Byte, api.Halt, api.Jump, 1), api.ErrJump},
		{"Branch to an operand", image(0, api.Byte, 1, api.Branch, 3, api.Byte, 0, api.Halt), api.ErrJump},
		{"Branch behind the code", image(0, api.Byte, 1, api.Branch, 7, api.Byte, 0, api.Halt), api.ErrJump},
		{"Branch to the one behind", image(0, api.Byte, 1, api.Branch, 4, api.Byte, 0, api.Halt), api.OK},
		{"Branch back", image(0, api.In, api.Branch, 0, api.Byte, 0, api.Halt), api.OK},
		{"from what no way reaches", image(0, api.Jump, 4, api.Jump, 3, api.Byte, 0, api.Halt), api.ErrJump},
	})
}

func TestLast(t *testing.T) {
	expect(t, []checkCase{
		{"Byte", image(0, api.Byte, 1), api.ErrEnd},
		{"Byte with an operand that looks like Halt", image(0, api.Byte, api.Halt), api.ErrEnd},
		{"Branch", image(0, api.In, api.Branch, 0), api.ErrEnd},
		{"Dup behind Halt", image(0, api.Byte, 1, api.Halt, api.Dup), api.ErrEnd},
		{"Store that no way reaches", image(1, api.Jump, 0, api.Store, 0), api.ErrEnd},
		{"Halt", image(0, api.In, api.Halt), api.OK},
		{"Jump", image(0, api.In, api.Drop, api.Jump, 0), api.OK},
		{"Jump with an operand that is no end", image(0, api.In, api.Out, api.In, api.Drop, api.Jump, 2), api.OK},
	})
	for op := byte(0); op <= api.Peek; op++ {
		if op == api.Halt || op == api.Jump {
			continue
		}
		code := []byte{api.Jump, 0, op}
		if wide(op) {
			code = append(code, 0)
		}
		expect(t, []checkCase{{"any other", image(1, code...), api.ErrEnd}})
	}
}

func TestSeveralErrors(t *testing.T) {
	expect(t, []checkCase{
		{"shape and code", image(5, 25), api.ErrShape},
		{"too long and code", image(0, repeat(121, 25)...), api.ErrShape},
		{"too long and jump", image(0, repeat(121, api.Jump)...), api.ErrShape},
		{"too short and first byte", "t", api.ErrShape},
		{"first byte, locals, code", "U\x09\x19", api.ErrShape},
		{"code behind a wrong jump", image(0, api.Jump, 77, 25), api.ErrCode},
		{"code behind a wrong type", image(0, api.Add, api.Halt, 25), api.ErrCode},
		{"operand missing at the end, types wrong", image(0, api.Add, api.Branch), api.ErrCode},
		{"no local's number behind a wrong jump", image(1, api.Jump, 9, api.Load, 1), api.ErrCode},
		{"jump and end", image(0, api.Jump, 1, api.Dup), api.ErrJump},
		{"jump and type", image(0, api.Add, api.Jump, 2), api.ErrJump},
		{"jump, end and type", image(0, api.Branch, 1), api.ErrJump},
		{"end and type", image(0, api.Add), api.ErrEnd},
		{"end and stack", image(0, repeat(9, api.Null)...), api.ErrEnd},
		{"all but shape", image(0, api.Add, api.Jump, 200, api.Get, 2), api.ErrCode},
	})
}

func TestStackDepth(t *testing.T) {
	expect(t, []checkCase{
		{"8 references", image(0, join(repeat(8, api.Null), repeat(8, api.Drop), []byte{api.Jump, 0})...), api.OK},
		{"9 references", image(0, join(repeat(9, api.Null), repeat(9, api.Drop), []byte{api.Jump, 0})...), api.ErrType},
		{"8 numbers", image(0, join(repeat(8, api.In), []byte{api.Halt})...), api.OK},
		{"9 numbers", image(0, join(repeat(9, api.In), []byte{api.Halt})...), api.ErrType},
		{"8 by Dup", image(0, join([]byte{api.In}, repeat(7, api.Dup), []byte{api.Halt})...), api.OK},
		{"9 by Dup", image(0, join([]byte{api.In}, repeat(8, api.Dup), []byte{api.Halt})...), api.ErrType},
		{"9 by Load", image(1, join(repeat(9, api.Load, 0), []byte{api.Halt})...), api.ErrType},
		{"9 by New", image(0, join(repeat(9, api.New), repeat(9, api.Drop), []byte{api.Jump, 0})...), api.ErrType},
		{"8, swapped", image(0, join(repeat(8, api.In), []byte{api.Swap, api.Halt})...), api.OK},
		{"8, added", image(0, join(repeat(8, api.In), []byte{api.Add, api.Halt})...), api.OK},
		{"8, Weak", image(0, join(repeat(8, api.Null), []byte{api.Weak}, repeat(8, api.Drop), []byte{api.Jump, 0})...), api.OK},
		{"a stack that grows round by round", image(0, api.In, api.Jump, 0), api.ErrType},
		{"a stack that shrinks round by round", image(0, api.In, api.In, api.Drop, api.Jump, 2), api.ErrType},
		{"9 where no way leads", image(0, join([]byte{api.Jump, 11}, repeat(9, api.Null), []byte{api.In, api.Halt})...), api.OK},
	})
}

func TestMixedLocals(t *testing.T) {
	fork := []byte{api.In, api.Branch, 6, api.Null, api.Store, 0}
	expect(t, []checkCase{
		{"not loaded", image(1, join(fork, []byte{api.In, api.Halt})...), api.OK},
		{"loaded and dropped", image(1, join(fork, []byte{api.Load, 0, api.Drop, api.In, api.Halt})...), api.ErrType},
		{"another is loaded", image(2, join(fork, []byte{api.Load, 1, api.Halt})...), api.OK},
		{"stored as a number, then loaded", image(1, join(fork, []byte{api.In, api.Store, 0, api.Load, 0, api.Halt})...), api.OK},
		{"stored as a reference, then loaded", image(1, join(fork, []byte{api.Null, api.Store, 0, api.Load, 0, api.Number, api.Halt})...), api.OK},
		{"stored as a reference, then loaded as a number", image(1, join(fork, []byte{api.Null, api.Store, 0, api.Load, 0, api.Halt})...), api.ErrType},
		{"loaded where no way leads", image(1, join(fork, []byte{api.Jump, 11, api.Load, 0, api.Halt, api.In, api.Halt})...), api.OK},
		{"loaded far behind", image(1, join(fork, repeat(20, api.In, api.Drop), []byte{api.Load, 0, api.Drop, api.In, api.Halt})...), api.ErrType},
		{"loaded on one side only", image(1, api.Load, 0, api.Branch, 9, api.Null, api.Store, 0, api.Jump, 9, api.In, api.Halt), api.OK},
	})
}

func TestLoops(t *testing.T) {
	expect(t, []checkCase{
		{"back with another local, not loaded", image(1, api.Null, api.Store, 0, api.Jump, 0), api.OK},
		{"back with another local, loaded", image(1, api.Load, 0, api.Out, api.Null, api.Store, 0, api.Jump, 0), api.ErrType},
		{"back with the same local", image(1, api.Load, 0, api.Out, api.In, api.Store, 0, api.Jump, 0), api.OK},
		{"back to where it is a reference already", image(1, api.Null, api.Store, 0, api.Load, 0, api.Store, 0, api.Jump, 3), api.OK},
		{"back with another stack", image(0, api.In, api.Drop, api.Null, api.Jump, 1), api.ErrType},
		{"back with the same stack", image(0, api.In, api.Drop, api.In, api.Jump, 1), api.OK},
		{"back to place 0 with a stack", image(0, api.In, api.Dup, api.Branch, 0, api.Halt), api.ErrType},
		// Place 7 is passed with a number first; only then the reference comes, by a chain of jumps back.
		{"the other type comes late", image(1, api.Load, 0, api.Out, api.Jump, 9, api.Jump, 0, api.Jump, 5, api.In, api.Branch, 7, api.Null, api.Store, 0, api.Jump, 7), api.ErrType},
		{"the other type comes late, not loaded", image(1, api.Byte, 0, api.Out, api.Jump, 9, api.Jump, 0, api.Jump, 5, api.In, api.Branch, 7, api.Null, api.Store, 0, api.Jump, 7), api.OK},
	})
}

func TestUnreached(t *testing.T) {
	expect(t, []checkCase{
		{"underflow where no way leads", image(0, api.Jump, 3, api.Add, api.Byte, 0, api.Halt), api.OK},
		{"a wrong type behind Halt", image(0, api.In, api.Halt, api.Null, api.Halt), api.OK},
		{"a loop of its own", image(0, api.Jump, 0, api.In, api.Jump, 2), api.OK},
		{"the same, reached by a branch that a run never takes", image(0, api.Byte, 0, api.Branch, 7, api.Jump, 4, api.In, api.In, api.Jump, 7), api.ErrType},
		{"a trap on the way does not hide what is behind", image(0, api.Null, api.Number, api.Add, api.Halt), api.ErrType},
		{"an unreached jump does not join its locals", image(1, api.Jump, 7, api.Null, api.Store, 0, api.Jump, 7, api.Load, 0, api.Halt), api.OK},
		{"an unreached jump does not join its stack", image(0, api.Jump, 5, api.Null, api.Jump, 5, api.In, api.Halt), api.OK},
		{"unreached code does not fall through", image(0, api.Jump, 3, api.Null, api.In, api.Halt), api.OK},
	})
}
