// Package tint: a machine with a heap that is tidied up while it runs: see DOC.md.
package tint

import (
	"tint/api"
	"tint/code"
	"tint/flow"
)

// Check tells whether an image may run (P3).
func Check(image string) api.Errno {
	_, _, err := load(image)
	return err
}

// Maps tells the types ahead of each instruction (P4).
func Maps(image string) ([]api.Point, api.Errno) {
	program, frames, err := load(image)
	if err != api.OK {
		return nil, err
	}
	var points []api.Point
	for k, frame := range frames {
		if k < len(program.List) {
			points = append(points, point(program.List[k].Place, frame, program.Locals))
		}
	}
	return points, api.OK
}

// load answers an image's program and the frames of its instructions, or the error of Check.
func load(image string) (code.Program, []flow.Frame, api.Errno) {
	program, err := code.Read(image)
	if err != api.OK {
		return code.Program{}, nil, err
	}
	frames, typed := flow.Frames(program)
	if !typed {
		return code.Program{}, nil, api.ErrType
	}
	return program, frames, api.OK
}

func point(place int, frame flow.Frame, locals int) api.Point {
	if !frame.Reached {
		return api.Point{Place: place}
	}
	types := frame.LocalTypes(locals)
	stack := frame.StackTypes()
	return api.Point{Place: place, Reached: true, Locals: types, Stack: stack}
}
