package interp_test

import (
	"math"
	"slices"
	"testing"

	"turnstone/api"
	"turnstone/code"
	"turnstone/frames"
	"turnstone/interp"
	"turnstone/kinds"
	"turnstone/world"
)

// TestNew (12.1): the state Going, the first frames, and a World at its beginning.
func TestNewBegins(t *testing.T) {
	p := sample(in(code.Input), in(code.Pop), in(code.Ret))
	m := started(t, p, 100, 5, 6)
	wantOver(t, m, interp.Going, api.NoTrap)
	wantFrames(t, m, frames.First(p)...)
	wantWorld(t, m.World(), lookAt(newWorld(t, p, 100)))
	if m.World() != m.World() {
		t.Error("12.2: World is another one each time")
	}
	if m.World().Input() != 5 || m.World().Input() != 6 || m.World().Input() != 0 {
		t.Error("12.1: the inputs")
	}
	p.Main = fNone
	m = started(t, p, 100)
	wantFrames(t, m, api.Frame{Func: fNone})
}

// wantRoom takes all the room that is left in a World, which must be just so many words.
func wantRoom(t *testing.T, w *world.World, left int) {
	t.Helper()
	if _, ok := w.Heap().Alloc(0, left); ok {
		t.Errorf("12.1: there is room for more than %d words", left)
	}
	if left == 0 {
		return
	}
	if _, ok := w.Heap().Alloc(0, left-1); !ok {
		t.Errorf("12.1: there is no room for %d words", left)
	}
}

// TestNewRoom (12.1): the texts of sample take 9 words of the room. Without them the Machine is over at once, and its World is one without texts.
func TestNewRoom(t *testing.T) {
	p := sample(in(code.Input), in(code.Pop), in(code.Ret))
	for _, room := range []int{9, 10, 100, api.MaxHeap, api.MaxHeap + 1, math.MaxInt} {
		m := started(t, p, room)
		wantOver(t, m, interp.Going, api.NoTrap)
		if m.World().Lit(textABC) != 5 {
			t.Errorf("12.1: the room %d: %d", room, m.World().Lit(textABC))
		}
		wantRoom(t, m.World(), min(room, api.MaxHeap)-9)
	}
	for _, room := range []int{math.MinInt, -1, 0, 1, 2, 5, 8} {
		m := started(t, p, room, 5, 6)
		wantOver(t, m, interp.Trap, api.Memory)
		wantFrames(t, m, frames.First(p)...)
		if m.Step() != interp.Trap || m.Run(10) != 0 || m.Put(frames.First(p)) {
			t.Errorf("12.1: the room %d: it is not over", room)
		}
		wantOver(t, m, interp.Trap, api.Memory)
		wantFrames(t, m, frames.First(p)...)
		w := m.World()
		if w == nil {
			t.Fatal("12.1: no World")
		}
		wantWorld(t, w, look{words: []uint64{0}, lits: make([]uint64, 6)})
		// What else there is of a World is that of the program.
		if w.Input() != 5 || w.Input() != 6 {
			t.Errorf("12.1: the room %d: the inputs", room)
		}
		wantRoom(t, w, max(room, 1)-1)
		c := m.Copy()
		wantOver(t, c, interp.Trap, api.Memory)
		wantFrames(t, c, frames.First(p)...)
	}
	p.Texts = []string{"m", "v", "", ""}
	p.Texts[textEmpty], p.Texts[textABC] = "", ""
	wantOver(t, started(t, p, 5), interp.Going, api.NoTrap)
	wantOver(t, started(t, p, 4), interp.Trap, api.Memory)
	least := api.Prog{Types: kinds.Base(), Funcs: []api.Func{{Code: list(in(code.Ret))}}}
	wantOver(t, started(t, least, -5), interp.Going, api.NoTrap)
}

// refused are programs that Verify refuses, by each of its errors.
func refused() []api.Prog {
	main := func(l ...api.Instr) api.Prog { return sample(l...) }
	l := []api.Prog{
		{},
		main(),
		main(in(99), in(code.Ret)),
		main(in(code.Jump, 7)),
		main(in(code.Pop), in(code.Ret)),
		main(in(code.Num), in(code.Ret)),
		main(in(code.Load, 99), in(code.Pop), in(code.Ret)),
		main(in(code.Bit)),
		main(in(code.Num), in(code.Not), in(code.Pop), in(code.Ret)),
	}
	for _, turn := range []func(p *api.Prog){
		func(p *api.Prog) { p.Main = 99 },
		func(p *api.Prog) { p.Main = fSum },
		func(p *api.Prog) { p.Types = p.Types[1:] },
		func(p *api.Prog) { p.Types[tP].Methods[0].Func = 99 },
		func(p *api.Prog) { p.Funcs[fN-1].Code[0].Op = 0 },
	} {
		p := main(in(code.Ret))
		turn(&p)
		l = append(l, p)
	}
	return l
}

// TestRefused (12.1): no Machine for a program that Verify refuses, whatever the error is.
func TestRefused(t *testing.T) {
	w := newWorld(t, sample(), 100)
	for i, p := range refused() {
		for _, room := range []int{-1, 1, 100} {
			if m, e := interp.New(p, room, []int64{1}); m != nil || e != api.ErrArg {
				t.Errorf("12.1: New of program %d: %v %d", i, m, e)
			}
		}
		for _, l := range [][]api.Frame{nil, {{Func: fNone}}, {{Func: fMain, Locals: make([]uint64, len(values))}}} {
			if m, e := interp.At(p, w, l); m != nil || e != api.ErrArg {
				t.Errorf("12.1: At of program %d: %v %d", i, m, e)
			}
		}
	}
}

// TestAt (12.1): it goes on from any frames that are right, in the World itself.
func TestAt(t *testing.T) {
	p := sample(in(code.Input), in(code.Print, api.Int), in(code.Ret))
	w := newWorld(t, p, 100, 5, 6, 7)
	w.Input()
	w.Print(api.Int, 1)
	for _, l := range [][]api.Frame{
		frames.First(p),
		{{Func: fMain, PC: 1, Locals: make([]uint64, len(values)), Stack: []uint64{5}}},
		{{Func: fNone}},
		{{Func: fSum, PC: 1, Locals: []uint64{1, 2, 3}, Stack: []uint64{1 << 63}}},
		{{Func: fEight, PC: 8}, {Func: fNone}},
		callers(api.MaxFrames),
	} {
		before := lookAt(w)
		m := going(t, p, w, l...)
		wantOver(t, m, interp.Going, api.NoTrap)
		wantFrames(t, m, l...)
		wantWorld(t, w, before)
		if m.World() != w {
			t.Error("12.1: another World")
		}
	}
	going(t, p, w, frames.First(p)...).Run(2)
	if !slices.Equal(w.Trace(), []string{"1", "6"}) || w.Taken() != 2 {
		t.Errorf("12.1: the World: %v", w.Trace())
	}
}

// wrong are lists of frames that are not right for sample with a main of Ret alone.
func wrong() [][]api.Frame {
	return [][]api.Frame{
		nil,
		{},
		callers(api.MaxFrames + 1),
		{{Func: -1}},
		{{Func: fN}},
		{{Func: fNone, PC: -1}},
		{{Func: fNone, PC: 1}},
		{{Func: fNone, Locals: []uint64{1}}},
		{{Func: fNone, Stack: []uint64{1}}},
		{{Func: fSum, PC: 2, Locals: []uint64{1, 2, 3}, Stack: []uint64{1}}},
		{{Func: fSum, PC: 2, Locals: []uint64{1, 2}, Stack: []uint64{1, 2}}},
		{{Func: fNone}, {Func: fNone}},
		{{Func: fEight, PC: 8, Stack: make([]uint64, 8)}, {Func: fNone}},
		{{Func: fEight, PC: 8}},
	}
}

// TestAtWrong (12.1): no Machine without a World, and none for frames that are not right.
func TestAtWrong(t *testing.T) {
	p := sample(in(code.Ret))
	w := newWorld(t, p, 100)
	before := lookAt(w)
	if m, e := interp.At(p, nil, frames.First(p)); m != nil || e != api.ErrArg {
		t.Errorf("12.1: no World: %v %d", m, e)
	}
	for i, l := range wrong() {
		if frames.Right(p, l) {
			t.Fatalf("frames %d are right", i)
		}
		if m, e := interp.At(p, w, l); m != nil || e != api.ErrArg {
			t.Errorf("12.1: frames %d: %v %d", i, m, e)
		}
	}
	wantWorld(t, w, before)
}

// spoil turns all that a program consists of.
func spoil(p *api.Prog) {
	for i := range p.Types {
		x := &p.Types[i]
		for j := range x.Fields {
			x.Fields[j] = api.Field{}
		}
		for j := range x.Methods {
			m := &x.Methods[j]
			for k := range m.Params {
				m.Params[k] = 99
			}
			*m = api.Method{}
		}
		*x = api.Type{}
	}
	for i := range p.Funcs {
		f := &p.Funcs[i]
		for j := range f.Code {
			f.Code[j] = api.Instr{}
		}
		for j := range f.Locals {
			f.Locals[j] = 99
		}
		for j := range f.Params {
			f.Params[j] = 99
		}
		*f = api.Func{}
	}
	for i := range p.Texts {
		p.Texts[i] = "?"
	}
	for i := range p.Nums {
		p.Nums[i] = 99
	}
}

// busy is a program that uses numbers, texts, types, methods and functions.
func busy() api.Prog {
	return sample(
		in(code.New, tP), in(code.Store, slices.Index(values, tI)), load(tI), in(code.Num), in(code.Invoke, nameM, 2), in(code.Print, api.Int),
		in(code.Lit, textABC), in(code.Print, api.Text), in(code.Input), in(code.Print, api.Int),
		in(code.New, tR), in(code.Store, slices.Index(values, tR)), in(code.Num), in(code.Num, 1), in(code.Call, fSum, 2), in(code.Print, api.Int), in(code.Ret))
}

// TestProgramKept (R2, R4): what a Machine was given is not turned, and may be turned by its owner.
func TestProgramKept(t *testing.T) {
	want := []string{"7", "abc", "5", "6"}
	inputs := []int64{5, 6, 99}
	p := busy()
	l := frames.First(p)
	w := newWorld(t, p, 100, inputs...)
	first, e := interp.New(p, 100, inputs[:2])
	second := going(t, p, w, l...)
	if e != api.OK {
		t.Fatal(e)
	}
	kept := first.Copy()
	spoil(&p)
	inputs[0] = 77
	l[0].PC, l[0].Func, l[0].Locals[0] = 9, 9, 9
	for i, m := range []*interp.Machine{first, second, kept} {
		if !m.Put(frames.First(busy())) {
			t.Errorf("R2: Machine %d: Put", i)
		}
		m.Run(1000)
		wantOver(t, m, interp.Done, api.NoTrap)
		if !slices.Equal(m.World().Trace(), want) {
			t.Errorf("R2: Machine %d: %q", i, m.World().Trace())
		}
	}
}

// TestProgramUntouched (R2): neither the program nor the memory behind its lists is turned by a run.
func TestProgramUntouched(t *testing.T) {
	p := busy()
	spare := append(p.Texts, "behind")
	p.Texts = spare[:len(p.Texts)]
	nums := append(p.Nums, 44)
	p.Nums = nums[:len(p.Nums)]
	m := started(t, p, 9+3+2, 5)
	m.Run(1000)
	wantOver(t, m, interp.Done, api.NoTrap)
	q := busy()
	for i := range q.Funcs {
		if !slices.Equal(p.Funcs[i].Code, q.Funcs[i].Code) || !slices.Equal(p.Funcs[i].Locals, q.Funcs[i].Locals) {
			t.Errorf("R2: function %d", i)
		}
	}
	if !slices.EqualFunc(p.Types, q.Types, kinds.Same) || !slices.Equal(p.Texts, q.Texts) || !slices.Equal(p.Nums, q.Nums) || spare[4] != "behind" || nums[4] != 44 {
		t.Error("R2: the program was turned")
	}
	// Also where there is no room for the texts.
	started(t, p, 1)
	if !slices.Equal(p.Texts, q.Texts) {
		t.Error("R2: the texts")
	}
}
