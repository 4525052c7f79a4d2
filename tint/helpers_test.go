package tint_test

import (
	"encoding/hex"
	"slices"
	"strings"
	"testing"

	"tint/api"
)

// image: an image with so many locals.
func image(locals int, code ...byte) string {
	return "T" + string([]byte{byte(locals)}) + string(code)
}

// bytesOf: an image written as hexadecimal bytes.
func bytesOf(t *testing.T, text string) string {
	t.Helper()
	b, err := hex.DecodeString(strings.ReplaceAll(text, " ", ""))
	if err != nil {
		t.Fatalf("%q is no hexadecimal text: %v", text, err)
	}
	return string(b)
}

// repeat: the same bytes so many times.
func repeat(count int, code ...byte) []byte {
	return slices.Repeat(code, count)
}

// join: pieces of code, one behind the other.
func join(pieces ...[]byte) []byte {
	return slices.Concat(pieces...)
}

func samePoint(a, b api.Point) bool {
	return a.Place == b.Place && a.Reached == b.Reached && slices.Equal(a.Locals, b.Locals) && slices.Equal(a.Stack, b.Stack)
}

func samePoints(a, b []api.Point) bool {
	return slices.EqualFunc(a, b, samePoint)
}

// dice: numbers that look thrown and are the same in every run.
type dice struct {
	state uint64
}

// below: a number from 0 to n - 1.
func (d *dice) below(n int) int {
	d.state = d.state*6364136223846793005 + 1442695040888963407
	return int((d.state >> 33) % uint64(n))
}
