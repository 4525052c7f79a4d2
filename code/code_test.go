package code

import (
	"slices"
	"testing"

	"tint/api"
)

func TestRead(t *testing.T) {
	p, err := Read("T\x02" + string([]byte{api.In, api.Branch, 7, api.Byte, 255, api.Jump, 0, api.Load, 1, api.Halt}))
	want := []Instruction{
		{Place: 0, Op: api.In},
		{Place: 1, Op: api.Branch, Operand: 7, Target: 4},
		{Place: 3, Op: api.Byte, Operand: 255},
		{Place: 5, Op: api.Jump, Operand: 0, Target: 0},
		{Place: 7, Op: api.Load, Operand: 1},
		{Place: 9, Op: api.Halt},
	}
	if err != api.OK || p.Locals != 2 || !slices.Equal(p.List, want) {
		t.Errorf("Read = %v, %d, want %v", p, err, want)
	}
}

func TestReadErrors(t *testing.T) {
	for _, c := range []struct {
		image string
		want  api.Errno
	}{
		{"", api.ErrShape},
		{"T\x05\x19", api.ErrShape},
		{"T\x00\x13\x09\x19", api.ErrCode},
		{"T\x00\x13\x01\x09", api.ErrJump},
		{"T\x00\x02", api.ErrEnd},
	} {
		p, err := Read(c.image)
		if err != c.want || p.Locals != 0 || p.List != nil {
			t.Errorf("Read(%q) = %v, %d, want nothing and %d", c.image, p, err, c.want)
		}
	}
}

// Types are not looked at here.
func TestReadIllTyped(t *testing.T) {
	if _, err := Read("T\x00\x00"); err != api.OK {
		t.Errorf("Read of a lone Halt answers %d", err)
	}
}
