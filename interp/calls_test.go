package interp_test

import (
	"slices"
	"testing"

	"turnstone/api"
	"turnstone/code"
	"turnstone/frames"
	"turnstone/interp"
)

// wantCalled executes the instruction of a try, which must append the frame of a call and leave the pc.
func (c try) wantCalled(t *testing.T, m *interp.Machine, x api.Frame, called api.Frame) {
	t.Helper()
	before := lookAt(m.World())
	if m.Step() != interp.Going {
		t.Fatalf("12.2: %s of %v is over", code.Name(c.in.Op), c.words)
	}
	x.Stack = []uint64{bottom}
	wantFrames(t, m, x, called)
	wantWorld(t, m.World(), before)
}

// TestCall (7.1, 12.2): the arguments are taken, the pc stays, and the frame of the function is appended.
func TestCall(t *testing.T) {
	eight := []uint64{1, 2, 3, 4, 5, 6, 7, 8}
	for _, c := range []struct {
		try
		locals []uint64
	}{
		{try{in: in(code.Call, fNone)}, nil},
		{try{in: in(code.Call, fSelf)}, nil},
		{try{in: in(code.Call, fSum, 2), takes: ints(2), words: []uint64{4, 1 << 63}, gives: []uint64{0}}, []uint64{4, 1 << 63, 0}},
		{try{in: in(code.Call, fMost, api.MaxParams), takes: ints(8), words: eight}, eight},
		{try{in: in(code.Call, fPm, 2), takes: []int{tP, api.Int}, words: []uint64{0, 6}, gives: []uint64{0}}, []uint64{0, 6, 0}},
		{try{in: in(code.Call, fMain)}, make([]uint64, len(values))},
	} {
		m, x := c.ahead(t, newWorld(t, sample(), 100), len(c.gives))
		c.wantCalled(t, m, x, api.Frame{Func: c.in.A, Locals: c.locals})
	}
}

// TestArgumentsApart (12.2, R2): the locals of the called one and the stack of the caller are of memory of their own.
func TestArgumentsApart(t *testing.T) {
	p := sample(in(code.Num), in(code.Num), in(code.Num, 1), in(code.Call, fSum, 2), in(code.Pop), in(code.Pop), in(code.Ret))
	p.Funcs[fSum].Code = list(in(code.Num, 2), in(code.Store), in(code.Num, 3), in(code.Store, 1), in(code.Load, 1), in(code.Ret, 1))
	m := started(t, p, 100)
	m.Run(8)
	x := frames.First(p)[0]
	x.PC, x.Stack = 3, []uint64{7}
	wantFrames(t, m, x, api.Frame{Func: fSum, PC: 4, Locals: []uint64{1 << 62, 1 << 63, 0}})
	m.Run(2)
	x.PC, x.Stack = 4, []uint64{7, 1 << 63}
	wantFrames(t, m, x)
}

// TestInvoke (7.1, 12.2): the head of the receiver tells the method; the receiver is the first local.
func TestInvoke(t *testing.T) {
	w := newWorld(t, sample(), 100)
	p, q, r := put(t, w, tP, 1, 2), put(t, w, tQ), put(t, w, tR, 3)
	c := try{in: in(code.Invoke, nameM, 2), takes: []int{tI, api.Int}, words: []uint64{p, 50}}
	m, x := c.ahead(t, w, 1)
	c.wantCalled(t, m, x, api.Frame{Func: fPm, Locals: []uint64{p, 50, 0}})
	c.words[0] = q
	m, x = c.ahead(t, w, 1)
	c.wantCalled(t, m, x, api.Frame{Func: fQm, Locals: []uint64{q, 50}})
	c = try{in: in(code.Invoke, nameV, 2), takes: []int{tV, api.Int}, words: []uint64{r, 51}}
	m, x = c.ahead(t, w, 0)
	c.wantCalled(t, m, x, api.Frame{Func: fRv, Locals: []uint64{r, 51, 0, 0}})
	m.Step()
	x.PC, x.Stack = x.PC+1, x.Stack[:1]
	wantFrames(t, m, x)
}

// TestInvokeNull (7.1, 12.2): nil, and all that is no object of a type with a method of the name.
func TestInvokeNull(t *testing.T) {
	w := newWorld(t, sample(), 200)
	bare, r, l := put(t, w, tBare), put(t, w, tR, 1), put(t, w, tInts, 1, 2)
	// Heads that no program makes: of an interface, of a type that does not exist, and of the plain types.
	refs := []uint64{0, bare, r, l, l + 1, w.Lit(textABC), 199, 1 << 32, 1 << 63, 1<<64 - 1}
	for _, kind := range []int{tI, tN, 1 << 20, api.Void, api.Int, api.Bool, api.Nil, tPs} {
		refs = append(refs, put(t, w, kind, 7))
	}
	for _, ref := range refs {
		try{in: in(code.Invoke, nameM, 2), takes: []int{tI, api.Int}, words: []uint64{ref, 5}, gives: []uint64{0}}.wantTrap(t, w, api.Null)
	}
	for _, ref := range []uint64{0, bare, put(t, w, tP, 1, 2), put(t, w, tQ), put(t, w, tV)} {
		try{in: in(code.Invoke, nameV, 2), takes: []int{tV, api.Int}, words: []uint64{ref, 5}}.wantTrap(t, w, api.Null)
	}
}

// TestInvokeOther (7.1, 12.3): a method of the name that has other parameters gets the words that there are.
// One that gives a result where none is waited for, or none where one is, would leave a stack of another height: there is no such method.
func TestInvokeOther(t *testing.T) {
	w := newWorld(t, sample(), 200)
	few, many, mute, loud := put(t, w, tFew), put(t, w, tMany), put(t, w, tMute), put(t, w, tLoud)
	c := try{in: in(code.Invoke, nameM, 2), takes: []int{tI, api.Int}, words: []uint64{few, 50}, gives: []uint64{0}}
	m, x := c.ahead(t, w, 1)
	c.wantCalled(t, m, x, api.Frame{Func: fFew, Locals: []uint64{few}})
	c.words[0] = many
	m, x = c.ahead(t, w, 1)
	c.wantCalled(t, m, x, api.Frame{Func: fMany, Locals: []uint64{many, 50, 0}})
	c.words[0] = mute
	c.wantTrap(t, w, api.Null)
	c = try{in: in(code.Invoke, nameV, 2), takes: []int{tV, api.Int}, words: []uint64{loud, 50}}
	c.wantTrap(t, w, api.Null)
}

// TestInvokeOften (12.2): in one function and then in another, more than once, in a Machine and its copy.
func TestInvokeOften(t *testing.T) {
	main := list(
		in(code.New, tP), in(code.Store, slices.Index(values, tI)), in(code.New, tR), in(code.Store, slices.Index(values, tV)),
		load(tI), in(code.Call, fGives, 1), in(code.Print, api.Int),
		load(tI), in(code.Num, 1), in(code.Invoke, nameM, 2), in(code.Print, api.Int),
		load(tV), in(code.Num), in(code.Invoke, nameV, 2),
		in(code.Num), load(tI), in(code.Num, 2), in(code.Invoke, nameM, 2), in(code.Add), in(code.Print, api.Int), in(code.Ret))
	p := sample(main...)
	whole := started(t, p, 100)
	for at := range whole.Run(1000) {
		m := started(t, p, 100)
		m.Run(at)
		c := m.Copy()
		c.Run(1000)
		m.Run(1000)
		for _, m := range []*interp.Machine{m, c, whole} {
			wantOver(t, m, interp.Done, api.NoTrap)
			if l := m.World().Trace(); !slices.Equal(l, []string{"7", "-1", "4611686018427387911"}) {
				t.Fatalf("12.2: %q", l)
			}
		}
	}
}

// callers are frames that stand at calls of themselves, n of them.
func callers(n int) []api.Frame {
	return slices.Repeat([]api.Frame{{Func: fSelf}}, n)
}

// TestDepth (12.2): there are MaxFrames frames and no more, whatever is called.
func TestDepth(t *testing.T) {
	p := sample(in(code.Ret))
	w := newWorld(t, p, 100)
	m := going(t, p, w, callers(api.MaxFrames-1)...)
	m.Step()
	wantOver(t, m, interp.Going, api.NoTrap)
	wantFrames(t, m, callers(api.MaxFrames)...)
	wantTrapped(t, m, api.Depth, callers(api.MaxFrames)...)
	// The arguments are still there.
	words := []uint64{1, 2, 3, 4, 5, 6, 7, 8}
	last := api.Frame{Func: fEight, PC: 8, Stack: words}
	wantTrapped(t, going(t, p, w, append(callers(api.MaxFrames-1), last)...), api.Depth, append(callers(api.MaxFrames-1), last)...)
	m = going(t, p, w, append(callers(api.MaxFrames-2), last)...)
	m.Step()
	last.Stack = nil
	wantFrames(t, m, append(callers(api.MaxFrames-2), last, api.Frame{Func: fMost, Locals: words})...)
}

// TestInvokeDepth (12.2): Null comes ahead of Depth, also if it is a method that is missing.
func TestInvokeDepth(t *testing.T) {
	p := sample(in(code.Ret))
	w := newWorld(t, p, 100)
	own, bare, mute := put(t, w, tP, 1, 2), put(t, w, tBare), put(t, w, tMute)
	for _, c := range []struct {
		ref  uint64
		trap int
	}{{own, api.Depth}, {0, api.Null}, {bare, api.Null}, {mute, api.Null}, {99, api.Null}} {
		last := api.Frame{Func: fGives, PC: 2, Locals: []uint64{0}, Stack: []uint64{c.ref, 5}}
		l := append(callers(api.MaxFrames-1), last)
		wantTrapped(t, going(t, p, w, l...), c.trap, l...)
		if m := going(t, p, w, l[1:]...); m.Step() == interp.Going != (c.trap == api.Depth) {
			t.Errorf("12.2: an Invoke on %d at MaxFrames less one", c.ref)
		}
	}
}

// TestSelf (12.2): each call of a function that calls itself is a frame more.
func TestSelf(t *testing.T) {
	p := sample(in(code.Call, fSelf), in(code.Ret))
	m := started(t, p, 100)
	if n := m.Run(1000); n != api.MaxFrames {
		t.Errorf("12.2: %d instructions", n)
	}
	wantOver(t, m, interp.Trap, api.Depth)
	wantFrames(t, m, append(frames.First(p), callers(api.MaxFrames-1)...)...)
}

// TestRet (7.1, 12.2): the frame is gone; a result goes on top of the stack of the frame below, which goes on behind its call.
func TestRet(t *testing.T) {
	p := sample(in(code.Num), in(code.Num), in(code.Num, 1), in(code.Call, fSum, 2), in(code.Call, fNone), in(code.Pop), in(code.Pop), in(code.Ret))
	w := newWorld(t, p, 100)
	x := api.Frame{Func: fMain, PC: 3, Locals: make([]uint64, len(values)), Stack: []uint64{bottom}}
	m := going(t, p, w, x, api.Frame{Func: fSum, PC: 3, Locals: make([]uint64, 3), Stack: []uint64{1 << 63}})
	m.Step()
	x.PC, x.Stack = 4, []uint64{bottom, 1 << 63}
	wantFrames(t, m, x)
	m = going(t, p, w, x, api.Frame{Func: fNone})
	m.Step()
	x.PC = 5
	wantFrames(t, m, x)
	wantOver(t, m, interp.Going, api.NoTrap)
	// In the midst of several, of one that was invoked.
	gives := api.Frame{Func: fGives, PC: 2, Locals: []uint64{9}}
	m = going(t, p, w, gives, gives, api.Frame{Func: fPm, PC: 1, Locals: make([]uint64, 3), Stack: []uint64{6}})
	m.Step()
	up := api.Frame{Func: fGives, PC: 3, Locals: []uint64{9}, Stack: []uint64{6}}
	wantFrames(t, m, gives, up)
	m.Step()
	wantFrames(t, m, up)
}

// TestLastRet (12.2): the end of the last frame is the end of the run, with a result or without.
func TestLastRet(t *testing.T) {
	p := sample(in(code.Ret))
	for _, last := range []api.Frame{
		{Func: fMain, Locals: make([]uint64, len(values))},
		{Func: fNone},
		{Func: fSum, PC: 3, Locals: make([]uint64, 3), Stack: []uint64{5}},
	} {
		w := newWorld(t, p, 100, 3)
		before := lookAt(w)
		m := going(t, p, w, last)
		if m.Step() != interp.Done {
			t.Fatal("12.2: not Done")
		}
		for range 3 {
			wantOver(t, m, interp.Done, api.NoTrap)
			wantFrames(t, m)
			wantWorld(t, m.World(), before)
			if m.Step() != interp.Done || m.Run(5) != 0 || m.Put([]api.Frame{last}) || m.World() != w {
				t.Fatal("12.2: it is not over")
			}
		}
	}
}

// TestStrangeFrames (R1): of frames that no calls have made nothing is promised but that nothing panics.
func TestStrangeFrames(t *testing.T) {
	p := sample(in(code.Num), in(code.Num), in(code.Call, fSum, 2), in(code.Num), in(code.Call, fSum, 2), in(code.Pop), in(code.Call, fNone), in(code.Ret))
	sum := api.Frame{Func: fSum, PC: 3, Locals: make([]uint64, 3), Stack: []uint64{5}}
	main := func(pc int) api.Frame {
		return api.Frame{Func: fMain, PC: pc, Locals: make([]uint64, len(values))}
	}
	gives := api.Frame{Func: fGives, PC: 2, Locals: []uint64{9}}
	for _, l := range [][]api.Frame{
		{main(2), {Func: fNone}}, {main(6), sum}, {gives, {Func: fNone}}, {gives, gives, gives, {Func: fNone}}, {main(2), gives, {Func: fNone}},
		{{Func: fMain, PC: 4, Locals: make([]uint64, len(values))}, {Func: fNone}},
		{{Func: fEight, PC: 8}, sum}, {{Func: fEight, PC: 8}, {Func: fNone}}, {main(2), main(2), main(2), {Func: fNone}},
	} {
		m := going(t, p, newWorld(t, p, 100), l...)
		for range 100 {
			m.Step()
			m.Frames()
			m.Top()
		}
		wantOver(t, m, interp.Done, api.NoTrap)
	}
}
