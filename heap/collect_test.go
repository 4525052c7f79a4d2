package heap

import (
	"slices"
	"testing"

	"tint/api"
)

// dice: numbers that look thrown and are the same in every run.
type dice struct {
	state uint64
}

func (d *dice) below(n int) int {
	d.state = d.state*6364136223846793005 + 1442695040888963407
	return int((d.state >> 33) % uint64(n))
}

// user: a program's part: it holds some references, and takes, ties and lets go cells.
type user struct {
	h     Heap
	roots []int
	full  int // how often no cell was to be had
	met   [6]int
}

// What a user met with.
const (
	setOfWhite = iota
	lateRoot
	forgot
	unreached
	freed
	resumed // a cell was wanted when none was free and a round was under way
)

func (u *user) reachable() []bool {
	seen := make([]bool, len(u.h.cells))
	todo := slices.Clone(u.roots)
	for len(todo) > 0 {
		r := todo[len(todo)-1]
		todo = todo[:len(todo)-1]
		if r == api.None || seen[r] {
			continue
		}
		seen[r] = true
		if c := u.h.cells[r]; !c.Weak {
			todo = append(todo, c.A, c.B)
		}
	}
	return seen
}

// unit: one unit; what it must leave as it is, and what it may not let go.
func (u *user) unit(t *testing.T) {
	t.Helper()
	before, in, phase := u.h.Cells(), u.reachable(), u.h.phase
	u.h.Unit(u.roots)
	for k, c := range before {
		now := u.h.cells[k]
		if now.Colour == api.Free && c.Colour != api.Free {
			u.met[freed]++
			if phase != api.Sweep || in[k] {
				t.Fatalf("P9: cell %d became free in phase %d, reachable: %v", k, phase, in[k])
			}
			continue
		}
		if c.Weak && c.A != api.None && now.A == api.None {
			u.met[forgot]++
			if in[k] && in[c.A] {
				t.Fatalf("P15: weak cell %d ceased to look at %d", k, c.A)
			}
			now.A = c.A
		}
		now.Colour = c.Colour
		if now != c {
			t.Fatalf("P9: a unit made %+v of %+v", u.h.cells[k], c)
		}
	}
	white := slices.ContainsFunc(u.roots, func(r int) bool { return r != api.None && before[r].Colour == api.White })
	if phase == api.Mark && u.h.phase == api.Mark && white && !slices.ContainsFunc(before, func(c api.Cell) bool { return c.Colour == api.Grey }) {
		u.met[lateRoot]++
	}
	u.lawful(t)
}

// lawful: P11.
func (u *user) lawful(t *testing.T) {
	t.Helper()
	in := u.reachable()
	h := &u.h
	dim := func(r int) bool { return r != api.None && h.cells[r].Colour < api.Grey }
	for k, c := range h.cells {
		bad := in[k] && c.Colour == api.Free || c.Colour == api.Free && c != blank
		switch h.phase {
		case api.Idle:
			bad = bad || c.Colour > api.White || h.hand != 0
		case api.Mark:
			bad = bad || c.Colour == api.Black && !c.Weak && (dim(c.A) || dim(c.B)) || h.hand != 0
		case api.Sweep:
			bad = bad || c.Colour == api.Grey || k < h.hand && c.Colour == api.Black || k >= h.hand && in[k] && c.Colour != api.Black
		}
		if bad {
			t.Fatalf("P11: phase %d, hand %d, cell %d: %+v of %+v, roots %v", h.phase, h.hand, k, c, h.cells, u.roots)
		}
	}
}

// want: a cell is wanted; P13.
func (u *user) want(t *testing.T, look int) {
	t.Helper()
	all := !slices.Contains(u.reachable(), false)
	phase, none := u.h.phase, !u.h.hasFree()
	kept := u.h.Cells()
	u.h.MakeRoom(u.roots)
	if !none && !slices.Equal(u.h.Cells(), kept) {
		t.Fatalf("P8: room was made though a cell was free")
	}
	if none && u.h.phase != api.Idle {
		t.Fatalf("P8: behind MakeRoom the phase is %d", u.h.phase)
	}
	if u.h.hasFree() == all {
		t.Fatalf("P13: a cell is free: %v, all were reachable: %v", u.h.hasFree(), all)
	}
	if none && phase != api.Idle {
		u.met[resumed]++
	}
	if all {
		u.full++ // let go of all, else it stays so
		for k := range u.roots {
			u.roots[k] = api.None
		}
		return
	}
	k, found := 0, false
	if look >= 0 {
		k, found = u.h.TakeWeak(u.roots[look])
	} else {
		k, found = u.h.TakePlain()
	}
	if !found {
		t.Fatalf("P8: no cell taken")
	}
	u.roots[len(u.roots)-1] = k
}

// tie: the newest cell refers to what a root had, and takes its place.
func (u *user) tie(a, n int) {
	last := u.roots[len(u.roots)-1]
	if u.h.Set(last, n, u.roots[a]) == api.Running {
		u.roots[a] = last
	}
}

// set: a Set, and what it shades.
func (u *user) set(t *testing.T, r, n, s int) {
	t.Helper()
	before := u.h.Cells()
	if u.h.Set(r, n, s) != api.Running {
		return
	}
	if n == 0 {
		before[r].A = s
	} else {
		before[r].B = s
	}
	if u.h.phase == api.Mark && s != api.None && before[s].Colour == api.White {
		before[s].Colour = api.Grey
		u.met[setOfWhite]++
	}
	if !slices.Equal(u.h.cells, before) {
		t.Fatalf("P8: Set of %d, %d to %d in phase %d: %+v, want %+v", r, n, s, u.h.phase, u.h.cells, before)
	}
}

// act: one thing that a program may do.
func (u *user) act(t *testing.T, d *dice) {
	t.Helper()
	h := &u.h
	a, b, n := d.below(len(u.roots)), d.below(len(u.roots)), d.below(2)
	last := len(u.roots) - 1
	switch d.below(20) {
	case 0:
		u.want(t, -1)
	case 1:
		u.want(t, a)
	case 2, 3:
		u.want(t, -1)
		u.tie(a, n)
	case 4:
		u.roots[a] = api.None
	case 5:
		u.roots[a] = u.roots[last]
	case 6, 7, 8:
		u.set(t, u.roots[a], n, u.roots[b])
	case 9, 10, 11, 12: // what a refers to is cut off, and is held by b or by its cell from now on
		s, outcome := h.Get(u.roots[a], n)
		if outcome != api.Running || s == api.None {
			break
		}
		u.set(t, u.roots[a], n, api.None)
		if d.below(2) == 0 {
			u.roots[b] = s
		} else {
			u.set(t, u.roots[b], n, s)
		}
	case 13, 14, 15, 16:
		if s, outcome := h.Get(u.roots[a], n); outcome == api.Running && s != api.None {
			u.roots[b] = s
		}
	case 17, 18, 19:
		if s, outcome := h.Peek(u.roots[a]); outcome == api.Running && s != api.None {
			if !u.reachable()[s] {
				u.met[unreached]++
			}
			u.roots[b] = s
		}
	}
	u.lawful(t)
}

// settle: P12.
func (u *user) settle(t *testing.T) {
	t.Helper()
	most := 2*len(u.h.cells) + 3
	for round := range 2 {
		taken := 0
		for u.h.phase != api.Idle || round == 1 && taken == 0 {
			u.unit(t)
			taken++
			if taken > most {
				t.Fatalf("P12: not Idle behind %d units", taken)
			}
		}
	}
	in := u.reachable()
	for k, c := range u.h.cells {
		if in[k] == (c.Colour == api.Free) || c.Weak && c.A != api.None && !in[c.A] {
			t.Fatalf("P12: behind a round: cell %d: %+v, reachable %v", k, c, in)
		}
	}
}

// Users that act at random while units are done between: P11 to P13 and P15 hold behind all that they do.
func TestThrownUsers(t *testing.T) {
	d := dice{5}
	var met [6]int
	full := 0
	for range 3000 {
		count := 1 + d.below(24)
		u := user{h: New(count), roots: slices.Repeat([]int{api.None}, 2+d.below(4))}
		pace := 1 + d.below(6)
		for range 20 + d.below(300) {
			u.act(t, &d)
			if d.below(pace) == 0 {
				u.unit(t)
			}
		}
		u.settle(t)
		for k, n := range u.met {
			met[k] += n
		}
		full += u.full
	}
	t.Logf("met %v, full %d", met, full)
	if slices.Min(met[:]) < 150 || full < 500 {
		t.Errorf("too few of a kind: met %v, full %d", met, full)
	}
}

// Roots and references that refer to no cell are left alone; so is a heap without cells.
func TestUnitsOfOdd(t *testing.T) {
	odd := []int{api.None, 2, 1<<63 - 1, -1 << 63}
	h := New(2)
	h.TakePlain()
	h.Set(0, 0, 7)
	h.Set(0, 1, -7)
	h.TakeWeak(9)
	for range 6 {
		h.Unit(append(odd, 0, 1))
		h.Set(0, 0, 7)
	}
	want := []api.Cell{{Colour: api.White, A: 7, B: -7}, {Colour: api.White, Weak: true, A: 9, B: api.None}}
	if h.phase != api.Idle || !slices.Equal(h.cells, want) {
		t.Errorf("P1: phase %d, cells %+v, want %+v", h.phase, h.cells, want)
	}
	none := New(0)
	none.MakeRoom(odd)
	if _, found := none.TakePlain(); found || none.phase != api.Idle || none.hand != 0 {
		t.Errorf("P1: a heap without cells: %+v", none)
	}
}
