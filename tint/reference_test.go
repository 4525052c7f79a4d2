package tint_test

import (
	"slices"
	"strings"

	"tint/api"
)

// A second reading of the document, to hold the program against: all ways are followed one by one, each with the types that it has, and nothing is joined on the way.

// effects: what an instruction pops, and behind the arrow what it pushes, as the document's table has it. v and w stand for either type.
var effects = []string{
	api.Halt:   "i>",
	api.Byte:   ">i",
	api.Add:    "ii>i",
	api.Sub:    "ii>i",
	api.Mul:    "ii>i",
	api.Div:    "ii>i",
	api.Less:   "ii>i",
	api.Load:   ">v",
	api.Store:  "v>",
	api.Dup:    "v>vv",
	api.Drop:   "v>",
	api.Swap:   "vw>wv",
	api.Null:   ">r",
	api.New:    ">r",
	api.Get:    "r>r",
	api.Set:    "rr>",
	api.Number: "r>i",
	api.Note:   "ri>",
	api.Same:   "rr>i",
	api.Jump:   ">",
	api.Branch: "i>",
	api.In:     ">i",
	api.Out:    "i>",
	api.Weak:   "r>r",
	api.Peek:   "r>r",
}

func wide(op byte) bool {
	return slices.Contains([]byte{api.Byte, api.Load, api.Store, api.Get, api.Set, api.Jump, api.Branch}, op)
}

// apply: the stack (letters i and r, the top last) behind an instruction, and whether it may be done. held is what its local holds.
func apply(op byte, stack string, held byte) (string, byte, bool) {
	pops, pushes, _ := strings.Cut(effects[op], ">")
	if len(stack) < len(pops) {
		return "", held, false
	}
	cut := len(stack) - len(pops)
	bound := map[byte]byte{'i': 'i', 'r': 'r'}
	if op == api.Load {
		bound['v'] = held
	}
	for k := range len(pops) {
		found := stack[cut+k]
		if pops[k] == 'i' || pops[k] == 'r' {
			if found != pops[k] {
				return "", held, false
			}
		} else {
			bound[pops[k]] = found
		}
	}
	behind := stack[:cut]
	for k := range len(pushes) {
		behind += string(bound[pushes[k]])
	}
	if op == api.Store {
		held = bound['v']
	}
	return behind, held, len(behind) <= api.MaxStack
}

// way: where a way has come to, and the types that it has there.
type way struct {
	place         int
	locals, stack string
}

// form: ErrShape, ErrCode, ErrJump and ErrEnd, and the places of the instructions.
func form(x string) ([]int, api.Errno) {
	if len(x) < 3 || len(x) > 122 || x[0] != 'T' || x[1] > 4 {
		return nil, api.ErrShape
	}
	code := x[2:]
	var places []int
	for p := 0; p < len(code); p++ {
		op := code[p]
		if op > 24 {
			return nil, api.ErrCode
		}
		places = append(places, p)
		if !wide(op) {
			continue
		}
		p++
		if p == len(code) {
			return nil, api.ErrCode
		}
		if (op == api.Load || op == api.Store) && code[p] >= x[1] || (op == api.Get || op == api.Set) && code[p] > 1 {
			return nil, api.ErrCode
		}
	}
	for _, p := range places {
		if (code[p] == api.Jump || code[p] == api.Branch) && !slices.Contains(places, int(code[p+1])) {
			return nil, api.ErrJump
		}
	}
	last := code[places[len(places)-1]]
	if last != api.Halt && last != api.Jump {
		return nil, api.ErrEnd
	}
	return places, api.OK
}

// next: the ways that are one instruction longer, and whether the instruction may be done.
func next(code string, w way) ([]way, bool) {
	op := code[w.place]
	behind := w.place + 1
	operand := 0
	if wide(op) {
		operand = int(code[w.place+1])
		behind++
	}
	var held byte
	if op == api.Load || op == api.Store {
		held = w.locals[operand]
	}
	stack, held, good := apply(op, w.stack, held)
	if !good {
		return nil, false
	}
	locals := []byte(w.locals)
	if op == api.Store {
		locals[operand] = held
	}
	jumped := way{operand, string(locals), stack}
	passed := way{behind, string(locals), stack}
	switch op {
	case api.Halt:
		return nil, true
	case api.Jump:
		return []way{jumped}, true
	case api.Branch:
		return []way{jumped, passed}, true
	}
	return []way{passed}, true
}

// follow: all that ways come to, or false if an instruction can't be done or a stack differs.
func follow(code string, locals int) (map[way]bool, bool) {
	start := way{0, strings.Repeat("i", locals), ""}
	seen := map[way]bool{start: true}
	stacks := map[int]string{0: ""}
	todo := []way{start}
	for len(todo) > 0 {
		w := todo[0]
		todo = todo[1:]
		more, good := next(code, w)
		if !good {
			return nil, false
		}
		for _, n := range more {
			stack, known := stacks[n.place]
			if known && stack != n.stack {
				return nil, false
			}
			stacks[n.place] = n.stack
			if !seen[n] {
				seen[n] = true
				todo = append(todo, n)
			}
		}
	}
	return seen, true
}

// types: letters as types.
func types(letters string) []int {
	var list []int
	for _, c := range letters {
		list = append(list, strings.IndexRune("irm", c))
	}
	return list
}

// tell: the point at a place.
func tell(place int, seen []way) api.Point {
	point := api.Point{Place: place}
	for _, w := range seen {
		now := types(w.locals)
		if !point.Reached {
			point = api.Point{Place: place, Reached: true, Locals: now, Stack: types(w.stack)}
		}
		for k := range now {
			if now[k] != point.Locals[k] {
				point.Locals[k] = api.Mixed
			}
		}
	}
	return point
}

// reference: what Maps should answer.
func reference(x string) ([]api.Point, api.Errno) {
	places, err := form(x)
	if err != api.OK {
		return nil, err
	}
	seen, good := follow(x[2:], int(x[1]))
	if !good {
		return nil, api.ErrType
	}
	at := map[int][]way{}
	for w := range seen {
		at[w.place] = append(at[w.place], w)
	}
	var points []api.Point
	for _, p := range places {
		point := tell(p, at[p])
		if x[2+p] == api.Load && point.Reached && point.Locals[x[3+p]] == api.Mixed {
			return nil, api.ErrType
		}
		points = append(points, point)
	}
	return points, api.OK
}
