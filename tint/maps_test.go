package tint_test

import (
	"fmt"
	"strings"
	"testing"

	"tint/api"
	"tint/tint"
)

const (
	i = api.Int
	r = api.Ref
	x = api.Mixed
)

func expectPoints(t *testing.T, what, image string, want []api.Point) {
	t.Helper()
	got, err := tint.Maps(image)
	if err != api.OK || !samePoints(got, want) {
		t.Errorf("P4: %s: Maps(%q) = %v, %d, want %v", what, image, got, err, want)
	}
}

func TestMapsOfExamples(t *testing.T) {
	expectPoints(t, "Byte, Halt", bytesOf(t, "54 00 01 07 00"), []api.Point{
		{Place: 0, Reached: true},
		{Place: 2, Reached: true, Stack: []int{i}},
	})
	expectPoints(t, "the last row", bytesOf(t, "54 01 01 01 14 07 0c 08 00 01 00 00"), []api.Point{
		{Place: 0, Reached: true, Locals: []int{i}},
		{Place: 2, Reached: true, Locals: []int{i}, Stack: []int{i}},
		{Place: 4, Reached: true, Locals: []int{i}},
		{Place: 5, Reached: true, Locals: []int{i}, Stack: []int{r}},
		{Place: 7, Reached: true, Locals: []int{x}},
		{Place: 9, Reached: true, Locals: []int{x}, Stack: []int{i}},
	})
	expectPoints(t, "a list that grows", bytesOf(t, "54 01 0c 08 00 0d 09 07 00 0f 00 08 00 13 03"), []api.Point{
		{Place: 0, Reached: true, Locals: []int{i}},
		{Place: 1, Reached: true, Locals: []int{i}, Stack: []int{r}},
		{Place: 3, Reached: true, Locals: []int{r}},
		{Place: 4, Reached: true, Locals: []int{r}, Stack: []int{r}},
		{Place: 5, Reached: true, Locals: []int{r}, Stack: []int{r, r}},
		{Place: 7, Reached: true, Locals: []int{r}, Stack: []int{r, r, r}},
		{Place: 9, Reached: true, Locals: []int{r}, Stack: []int{r}},
		{Place: 11, Reached: true, Locals: []int{r}},
	})
}

func TestMapsOfUnreached(t *testing.T) {
	expectPoints(t, "a store that no way reaches", image(2, api.Jump, 6, api.Null, api.Store, 1, api.Add, api.In, api.Halt), []api.Point{
		{Place: 0, Reached: true, Locals: []int{i, i}},
		{Place: 2},
		{Place: 3},
		{Place: 5},
		{Place: 6, Reached: true, Locals: []int{i, i}},
		{Place: 7, Reached: true, Locals: []int{i, i}, Stack: []int{i}},
	})
	expectPoints(t, "behind Halt", image(4, api.In, api.Halt, api.Jump, 2), []api.Point{
		{Place: 0, Reached: true, Locals: []int{i, i, i, i}},
		{Place: 1, Reached: true, Locals: []int{i, i, i, i}, Stack: []int{i}},
		{Place: 2},
	})
}

func TestMapsOfLoops(t *testing.T) {
	expectPoints(t, "back with another local", image(1, api.Null, api.Store, 0, api.Jump, 0), []api.Point{
		{Place: 0, Reached: true, Locals: []int{x}},
		{Place: 1, Reached: true, Locals: []int{x}, Stack: []int{r}},
		{Place: 3, Reached: true, Locals: []int{r}},
	})
	expectPoints(t, "Mixed ends where it is stored", image(2, api.In, api.Branch, 6, api.Null, api.Store, 1, api.In, api.Store, 1, api.Jump, 0), []api.Point{
		{Place: 0, Reached: true, Locals: []int{i, i}},
		{Place: 1, Reached: true, Locals: []int{i, i}, Stack: []int{i}},
		{Place: 3, Reached: true, Locals: []int{i, i}},
		{Place: 4, Reached: true, Locals: []int{i, i}, Stack: []int{r}},
		{Place: 6, Reached: true, Locals: []int{i, x}},
		{Place: 7, Reached: true, Locals: []int{i, x}, Stack: []int{i}},
		{Place: 9, Reached: true, Locals: []int{i, i}},
	})
	expectPoints(t, "the other type comes late", image(1, api.Byte, 0, api.Out, api.Jump, 9, api.Jump, 0, api.Jump, 5, api.In, api.Branch, 7, api.Null, api.Store, 0, api.Jump, 7), []api.Point{
		{Place: 0, Reached: true, Locals: []int{x}},
		{Place: 2, Reached: true, Locals: []int{x}, Stack: []int{i}},
		{Place: 3, Reached: true, Locals: []int{x}},
		{Place: 5, Reached: true, Locals: []int{x}},
		{Place: 7, Reached: true, Locals: []int{x}},
		{Place: 9, Reached: true, Locals: []int{x}},
		{Place: 10, Reached: true, Locals: []int{x}, Stack: []int{i}},
		{Place: 12, Reached: true, Locals: []int{x}},
		{Place: 13, Reached: true, Locals: []int{x}, Stack: []int{r}},
		{Place: 15, Reached: true, Locals: []int{r}},
	})
}

// letters: all texts of i and r of a length.
func letters(length int) []string {
	if length == 0 {
		return []string{""}
	}
	var list []string
	for _, s := range letters(length - 1) {
		list = append(list, s+"i", s+"r")
	}
	return list
}

// pushing: code that lays values of these types on the stack.
func pushing(stack string) []byte {
	var code []byte
	for _, c := range stack {
		code = append(code, map[rune]byte{'i': api.In, 'r': api.Null}[c])
	}
	return code
}

// Each instruction, behind each stack of up to 3 values and those of 8, local 0 holding either type.
func TestEachInstruction(t *testing.T) {
	var stacks []string
	for _, length := range []int{0, 1, 2, 3, 8} {
		stacks = append(stacks, letters(length)...)
	}
	for op := byte(0); op <= api.Peek; op++ {
		if op == api.Jump {
			continue
		}
		for _, stack := range stacks {
			for _, held := range []byte("ir") {
				tryInstruction(t, op, stack, held)
			}
		}
	}
}

func tryInstruction(t *testing.T, op byte, stack string, held byte) {
	t.Helper()
	head := join(pushing(string(held)), []byte{api.Store, 0}, pushing(stack))
	code := join(head, []byte{op})
	behind := len(code)
	if wide(op) {
		code = append(code, 0)
		behind++
	}
	if op == api.Branch {
		code[len(code)-1] = byte(behind)
	}
	code = append(code, api.Jump, byte(behind))
	left, now, good := apply(op, stack, held)
	what := fmt.Sprintf("instruction %d, stack %q, local %c", op, stack, held)
	if !good {
		expect(t, []checkCase{{what, image(1, code...), api.ErrType}})
		return
	}
	points, err := tint.Maps(image(1, code...))
	if err != api.OK {
		t.Errorf("P3: %s: error %d", what, err)
		return
	}
	want := api.Point{Place: behind, Reached: op != api.Halt, Locals: types(string(now)), Stack: types(left)}
	if op == api.Halt {
		want = api.Point{Place: behind}
	}
	if got := points[len(points)-1]; !samePoint(got, want) {
		t.Errorf("P4: %s: %v, want %v", what, got, want)
	}
}

func against(t *testing.T, x string) ([]api.Point, api.Errno) {
	t.Helper()
	want, wanted := reference(x)
	got, err := tint.Maps(x)
	if err != wanted || !samePoints(got, want) || (err != api.OK && got != nil) {
		t.Errorf("P4: Maps(%x) = %v, %d, want %v, %d", x, got, err, want, wanted)
	}
	if err := tint.Check(x); err != wanted {
		t.Errorf("P3: Check(%x) = %d, want %d", x, err, wanted)
	}
	return got, err
}

// All code of up to 3 bytes, of the bytes that tell things apart, and so all orders of errors.
func TestAllShortImages(t *testing.T) {
	var alphabet []byte
	for b := byte(0); b <= 26; b++ {
		alphabet = append(alphabet, b)
	}
	alphabet = append(alphabet, 119, 120, 121, 128, 255)
	for _, locals := range []int{0, 1, 2, 4, 5} {
		for _, a := range alphabet {
			against(t, image(locals, a))
			for _, b := range alphabet {
				against(t, image(locals, a, b))
				for _, c := range alphabet {
					against(t, image(locals, a, b, c))
				}
			}
		}
	}
}

// Strings that are no images, of all lengths about the bounds.
func TestAnyString(t *testing.T) {
	d := dice{1}
	for length := 0; length < 300; length++ {
		for k := 0; k < 40; k++ {
			b := make([]byte, length)
			for n := range b {
				b[n] = byte(d.below([]int{256, 26, 25}[k%3]))
			}
			head := []byte{'T', byte(d.below(5))}
			copy(b, head[:d.below(3)])
			against(t, string(b))
		}
		against(t, strings.Repeat("T", length))
	}
}
