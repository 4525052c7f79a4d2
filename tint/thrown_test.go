package tint_test

import (
	"testing"

	"tint/api"
)

// throwCode: code that keeps its stack in order from line to line, with jumps to where the stack is the same, and now and then a slip.
func throwCode(d *dice, locals, length, slip int) []byte {
	var code []byte
	stack := ""
	held := make([]byte, locals)
	for k := range held {
		held[k] = 'i'
	}
	at := map[int]string{}
	var jumps []int
	for len(code) < length {
		op := byte(d.below(25))
		if (op == api.Halt || op == api.Jump) && d.below(6) > 0 || (op == api.Load || op == api.Store) && locals == 0 {
			continue
		}
		operand := byte(d.below(256))
		if op == api.Load || op == api.Store {
			operand = byte(d.below(locals))
		}
		if op == api.Get || op == api.Set {
			operand = byte(d.below(2))
		}
		var now byte
		if op == api.Load || op == api.Store {
			now = held[operand]
		}
		behind, now, good := apply(op, stack, now)
		if !good && d.below(slip) > 0 {
			continue
		}
		at[len(code)] = stack
		if op == api.Store {
			held[operand] = now
		}
		if op == api.Jump || op == api.Branch {
			jumps = append(jumps, len(code))
		}
		code = append(code, op)
		if wide(op) {
			code = append(code, operand)
		}
		if good {
			stack = behind
		}
	}
	at[len(code)] = stack
	jumps = append(jumps, len(code))
	code = append(code, api.Jump, 0)
	aim(d, code, jumps, at, slip)
	return code
}

// aim: each jump goes to a place with the stack that it leaves, or, now and then, to any.
func aim(d *dice, code []byte, jumps []int, at map[int]string, slip int) {
	for _, p := range jumps {
		stack := at[p]
		if code[p] == api.Branch && len(stack) > 0 {
			stack = stack[:len(stack)-1]
		}
		var fit, any []byte
		for k := range code {
			found, begins := at[k]
			if begins {
				any = append(any, byte(k))
			}
			if begins && found == stack {
				fit = append(fit, byte(k))
			}
		}
		if len(fit) == 0 || d.below(slip) == 0 {
			fit = any
		}
		code[p+1] = fit[d.below(len(fit))]
	}
}

// Thrown images of all lengths, against the ways followed one by one.
func TestThrownImages(t *testing.T) {
	t.Parallel()
	d := dice{7}
	var answers [10]int
	mixed, unreached, full := 0, 0, 0
	for k := 0; k < 60000; k++ {
		locals := d.below(5)
		length := 1 + d.below(20)
		if k%4 == 0 {
			length = 1 + d.below(118)
		}
		points, err := against(t, image(locals, throwCode(&d, locals, length, 150)...))
		answers[err]++
		for _, p := range points {
			if !p.Reached {
				unreached++
			}
			if len(p.Stack) == api.MaxStack {
				full++
			}
			for _, l := range p.Locals {
				if l == api.Mixed {
					mixed++
				}
			}
		}
		if t.Failed() {
			return
		}
	}
	t.Logf("answers %v; points unreached %d, with a full stack %d; locals Mixed %d", answers, unreached, full, mixed)
	// A throw that shows nothing tests nothing.
	if answers[api.OK] < 1000 || answers[api.ErrType] < 1000 || mixed < 1000 || unreached < 1000 || full < 100 {
		t.Errorf("too few of a kind: answers %v; unreached %d, full %d, mixed %d", answers, unreached, full, mixed)
	}
}
