package verify_test

import (
	"fmt"
	"math"
	"reflect"
	"slices"
	"testing"

	"turnstone/api"
	"turnstone/code"
	"turnstone/verify"
)

// wantTold compares what Heights and Types answer about a function with the types ahead of each pc, nil where it is not reached.
func wantTold(t *testing.T, p api.Prog, f int, want [][]int) {
	t.Helper()
	heights, ok := verify.Heights(p, f)
	if !ok || len(heights) != len(want) {
		t.Errorf("9.3: Heights of %d: %v %v", f, heights, ok)
		return
	}
	for pc, l := range want {
		height := len(l)
		if l == nil {
			height = -1
		}
		if heights[pc] != height {
			t.Errorf("9.3: Heights of %d: %d at %d, not %d", f, heights[pc], pc, height)
		}
		got, ok := verify.Types(p, f, pc)
		if ok != (l != nil) || !slices.Equal(got, l) || !ok && got != nil {
			t.Errorf("9.3: Types of %d, %d: %v %v, not %v", f, pc, got, ok, l)
		}
	}
}

// TestTold (9.3): heights and types of code with jumps back and forth, and with parts that are not reached.
func TestTold(t *testing.T) {
	none := []int{}
	p := world(
		load(tInts),             // 0
		in(code.Num),            // 1
		in(code.Bit),            // 2
		in(code.JumpNo, 7),      // 3
		load(tP),                // 4
		in(code.Pop),            // 5
		in(code.Jump, 2),        // 6
		in(code.At),             // 7
		in(code.Print, api.Int), // 8
		in(code.Jump, 12),       // 9
		load(tK),                // 10
		in(code.Jump, 10),       // 11
		ret,                     // 12
	)
	wantTold(t, p, fMain, [][]int{none, {tInts}, {tInts, 1}, {tInts, 1, 2}, {tInts, 1}, {tInts, 1, tP}, {tInts, 1}, {tInts, 1}, {1}, none, nil, nil, none})
	wantTold(t, p, fPm, [][]int{none, {api.Int}})
	wantTold(t, p, fVoid, [][]int{none})
	wantTold(t, p, fMany, [][]int{none, {api.Text}})
	wantTold(t, p, fOne, [][]int{none, {tP}})
	wantTold(t, world(in(code.Jump, 2), in(code.Pop), in(code.Jump, 0)), fMain, [][]int{none, nil, none})
	high := world(append(append(times(api.MaxStack, in(code.Lit)), times(api.MaxStack, in(code.Pop))...), ret)...)
	want := [][]int{}
	for pc := range 2*api.MaxStack + 1 {
		want = append(want, append(none, times(min(pc, 2*api.MaxStack-pc), api.Text)...))
	}
	wantTold(t, high, fMain, want)
}

// TestToldOfNothing (9.3, R5): no such function, no such pc.
func TestToldOfNothing(t *testing.T) {
	p := world(in(code.Num), in(code.Pop), ret)
	for _, f := range append([]int{fN, fN + 1, 99}, far...) {
		if l, ok := verify.Heights(p, f); ok || l != nil {
			t.Errorf("9.3: Heights of %d: %v %v", f, l, ok)
		}
		if l, ok := verify.Types(p, f, 0); ok || l != nil {
			t.Errorf("9.3: Types of %d: %v %v", f, l, ok)
		}
	}
	for _, pc := range append([]int{3, 4, api.MaxCode}, far...) {
		if l, ok := verify.Types(p, fMain, pc); ok || l != nil {
			t.Errorf("9.3: Types at %d: %v %v", pc, l, ok)
		}
	}
}

// TestToldOfRefused (R1, R3): a program that may not run has no heights and no types.
func TestToldOfRefused(t *testing.T) {
	for _, f := range allFaults() {
		p := world(ret)
		f.turn(&p)
		for of := -1; of <= fN+1; of++ {
			if l, ok := verify.Heights(p, of); ok || l != nil {
				t.Errorf("9.3: %s: Heights of %d: %v", f.name, of, l)
			}
			if l, ok := verify.Types(p, of, 0); ok || l != nil {
				t.Errorf("9.3: %s: Types of %d: %v", f.name, of, l)
			}
		}
	}
	for _, p := range []api.Prog{{}, {Main: math.MaxInt}, {Funcs: times(3, api.Func{})}} {
		if _, ok := verify.Heights(p, 0); ok {
			t.Error("9.3: Heights of nothing")
		}
	}
}

// spare gives lists more capacity than length, so that writing behind their end shows.
func spare(p *api.Prog) []*[]api.Instr {
	var all []*[]api.Instr
	for f := range p.Funcs {
		of := &p.Funcs[f]
		of.Code = slices.Grow(of.Code, 8)
		of.Params = append(of.Params, 77, 78)[:len(of.Params)]
		of.Locals = append(of.Locals, 77, 78)[:len(of.Locals)]
		all = append(all, &of.Code)
	}
	p.Texts = append(p.Texts, "behind")[:len(p.Texts)]
	p.Nums = append(p.Nums, 99)[:len(p.Nums)]
	p.Types = append(p.Types, api.Type{Name: "behind"})[:len(p.Types)]
	p.Funcs = append(p.Funcs, api.Func{Name: "behind"})[:len(p.Funcs)]
	return all
}

// whole shows a program with what stands behind the ends of its lists.
func whole(p api.Prog) string {
	s := fmt.Sprint(p.Types[:cap(p.Types)], p.Texts[:cap(p.Texts)], p.Nums[:cap(p.Nums)], p.Main)
	for _, f := range p.Funcs[:cap(p.Funcs)] {
		s += fmt.Sprint(f, f.Params[:cap(f.Params)], f.Locals[:cap(f.Locals)], f.Code[:cap(f.Code)])
	}
	return s
}

// TestUntouched (R2): arguments stay as they are, behind their ends too, and answers are new.
func TestUntouched(t *testing.T) {
	p := world(load(tP), in(code.Num), in(code.Bit), in(code.JumpNo, 4), in(code.SetField, 0), in(code.Jump, 0))
	spare(&p)
	before := whole(p)
	verify.Verify(p)
	for range 2 {
		h, _ := verify.Heights(p, fMain)
		l, _ := verify.Types(p, fMain, 2)
		if !slices.Equal(h, []int{0, 1, 2, 3, 2, 0}) || !slices.Equal(l, []int{tP, api.Int}) {
			t.Fatalf("R2: %v %v", h, l)
		}
		for i := range h[:cap(h)] {
			h[:cap(h)][i] = -9
		}
		for i := range l[:cap(l)] {
			l[:cap(l)][i] = -9
		}
	}
	if whole(p) != before {
		t.Error("R2: the program was turned")
	}
	a, _ := verify.Types(p, fMain, 4)
	b, _ := verify.Types(p, fMain, 2)
	a[0] = 0
	if !reflect.DeepEqual(b, []int{tP, api.Int}) {
		t.Error("R2: two answers share memory")
	}
}
