package tint_test

import (
	"testing"

	"tint/api"
	"tint/tint"
)

// wanted: an image with locals and a stack at many places, and what Maps tells of it.
func wanted(t *testing.T) (string, []api.Point) {
	t.Helper()
	x := image(4, join(repeat(8, api.In), []byte{api.Store, 3, api.Null, api.Store, 2}, repeat(6, api.Drop), []byte{api.Halt})...)
	points, err := reference(x)
	if err != api.OK {
		t.Fatalf("the reference answers %d", err)
	}
	return x, points
}

// scribble: write into a list and its spare room.
func scribble(list []int, mark int) {
	list = list[:cap(list)]
	for k := range list {
		list[k] = mark
	}
}

func TestFreshEachTime(t *testing.T) {
	x, want := wanted(t)
	first, _ := tint.Maps(x)
	second, _ := tint.Maps(x)
	for _, p := range first {
		scribble(p.Locals, 77)
		scribble(p.Stack, 77)
	}
	room := first[:cap(first)]
	for k := range room {
		room[k] = api.Point{Place: 77}
	}
	third, _ := tint.Maps(x)
	if !samePoints(second, want) {
		t.Errorf("P2: an answer changed when another was written into: %v, want %v", second, want)
	}
	if !samePoints(third, want) {
		t.Errorf("P2: a later answer shows what was written: %v, want %v", third, want)
	}
	for k := range room {
		if room[k].Place != 77 || room[k].Reached {
			t.Errorf("P2: a later call wrote into an earlier answer: %v", room[k])
		}
	}
}

func TestNoSharedMemory(t *testing.T) {
	x, want := wanted(t)
	for k := range want {
		for _, stack := range []bool{false, true} {
			points, _ := tint.Maps(x)
			expected, _ := reference(x)
			if stack {
				scribble(points[k].Stack, 77)
				points[k].Stack = expected[k].Stack
			} else {
				scribble(points[k].Locals, 77)
				points[k].Locals = expected[k].Locals
			}
			if !samePoints(points, expected) {
				t.Errorf("P2: lists of one answer share memory: %v, want %v", points, expected)
			}
		}
	}
}

func TestSameAgain(t *testing.T) {
	good, want := wanted(t)
	for _, between := range []string{"", "T\x00\x19", image(0, api.Halt), image(1, api.Null, api.Store, 0, api.Jump, 0), good} {
		tint.Check(between)
		tint.Maps(between)
		if err := tint.Check(good); err != api.OK {
			t.Errorf("P2: Check answers %d behind %q", err, between)
		}
		if points, err := tint.Maps(good); err != api.OK || !samePoints(points, want) {
			t.Errorf("P2: Maps answers %v, %d behind %q", points, err, between)
		}
	}
}
