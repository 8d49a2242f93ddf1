package interp_test

import (
	"math"
	"slices"
	"testing"

	"turnstone/api"
	"turnstone/code"
	"turnstone/compile"
	"turnstone/frames"
	"turnstone/interp"
	"turnstone/samples"
)

// program is that of a text.
func program(t *testing.T, s string) api.Prog {
	t.Helper()
	p, at, e := compile.Text(s)
	if e != api.OK {
		t.Fatalf("%d at %v of %s", e, at, s)
	}
	return p
}

// TestExamples: those of the chapter.
func TestExamples(t *testing.T) {
	m := started(t, program(t, "func main() {\nprint(7 / 2)\nx := 0\nprint(1 / x)\n}"), 100)
	m.Run(100)
	wantOver(t, m, interp.Trap, api.Div)
	if !slices.Equal(m.World().Trace(), []string{"3"}) {
		t.Errorf("%q", m.World().Trace())
	}
	m = started(t, program(t, "func f() { f() }\nfunc main() { f() }"), 100)
	m.Run(100)
	wantOver(t, m, interp.Trap, api.Depth)
	if len(m.Frames()) != api.MaxFrames {
		t.Errorf("%d frames", len(m.Frames()))
	}
}

// TestStates: the states are the numbers that the chapter gives.
func TestStates(t *testing.T) {
	if interp.Going != 0 || interp.Done != 1 || interp.Trap != 2 {
		t.Error(interp.Going, interp.Done, interp.Trap)
	}
}

// counting is a program that executes 10 instructions: 4 up to the jump, 3 that lead back, and 3 up to its end.
func counting() api.Prog {
	return sample(
		in(code.Bit), in(code.Store, 1), in(code.Load, 1), in(code.JumpNo, 5), in(code.Ret),
		in(code.Bit, 1), in(code.Store, 1), in(code.Jump, 2))
}

// TestRun (12.2): Run executes no more than it may, and tells how many it has executed.
func TestRun(t *testing.T) {
	const all = 10
	for _, fuel := range []int{math.MinInt, -5, -1, 0, 1, 2, 5, all - 1, all, all + 1, 1000, math.MaxInt} {
		m := started(t, counting(), 100)
		want := min(max(fuel, 0), all)
		if n := m.Run(fuel); n != want {
			t.Errorf("12.2: Run(%d): %d, not %d", fuel, n, want)
		}
		steps := started(t, counting(), 100)
		for range want {
			steps.Step()
		}
		wantFrames(t, m, steps.Frames()...)
		state, trap := steps.Over()
		wantOver(t, m, state, trap)
		if (state == interp.Done) != (fuel >= all) {
			t.Errorf("12.2: Run(%d): state %d", fuel, state)
		}
		if n := m.Run(1000); n != all-want {
			t.Errorf("12.2: Run behind Run(%d): %d", fuel, n)
		}
		if n := m.Run(1000); n != 0 {
			t.Errorf("12.2: Run of what is over: %d", n)
		}
	}
}

// TestRunTrap (12.2): the instruction that traps is the last one that is executed.
func TestRunTrap(t *testing.T) {
	for fuel, want := range map[int]int{-1: 0, 0: 0, 2: 2, 3: 3, 4: 3, 100: 3} {
		p := sample(in(code.Num), load(api.Int), in(code.Div), in(code.Pop), in(code.Ret))
		m := started(t, p, 100)
		if n := m.Run(fuel); n != want {
			t.Errorf("12.2: Run(%d): %d, not %d", fuel, n, want)
		}
		if state, trap := m.Over(); (state == interp.Trap) != (fuel >= 3) || (trap == api.Div) != (fuel >= 3) {
			t.Errorf("12.2: Run(%d): %d %d", fuel, state, trap)
		}
	}
}

// TestStepTells (12.2): Step answers the state that Over tells afterwards.
func TestStepTells(t *testing.T) {
	for n := range 30 {
		m := started(t, program(t, samples.Text(n)), 2000, 1, 2)
		for range 3000 {
			s := m.Step()
			state, trap := m.Over()
			if s != state || (trap != api.NoTrap) != (state == interp.Trap) {
				t.Fatalf("12.2: Step: %d, Over: %d %d", s, state, trap)
			}
		}
	}
}

// overwrite turns all words of frames, and those behind their ends.
func overwrite(l []api.Frame) {
	for i := range l {
		for _, words := range [][]uint64{l[i].Locals, l[i].Stack} {
			words = words[:cap(words)]
			for j := range words {
				words[j] = 1 << 50
			}
		}
		l[i].Func, l[i].PC = 99, 99
	}
}

// deep is a Machine with several frames, each with words of its own.
func deep(t *testing.T) (*interp.Machine, []api.Frame) {
	p := sample(in(code.Num), in(code.Num), in(code.Num, 1), in(code.Call, fSum, 2), in(code.Pop), in(code.Pop), in(code.Ret))
	l := []api.Frame{
		{Func: fMain, PC: 3, Locals: make([]uint64, len(values)), Stack: []uint64{3}},
		{Func: fGives, PC: 2, Locals: []uint64{4}},
		{Func: fSum, PC: 2, Locals: []uint64{5, 6, 7}, Stack: []uint64{8, 9}},
	}
	return going(t, p, newWorld(t, p, 100), l...), frames.Copy(l)
}

// TestFramesOwn (12.2, R2): what Frames returns is its owner's, and does not follow the Machine.
func TestFramesOwn(t *testing.T) {
	m, want := deep(t)
	a, b := m.Frames(), m.Frames()
	overwrite(a)
	wantFrames(t, m, want...)
	if !frames.Same(b, want) {
		t.Error("R2: two answers share memory")
	}
	b[0].Stack = append(b[0].Stack, 1)
	b[2].Stack = append(b[2].Stack, 1)
	m.Run(2)
	if !frames.Same(b[1:2], want[1:2]) || b[2].PC != 2 || b[2].Stack[0] != 8 {
		t.Error("R2: an answer follows the Machine")
	}
	for n := range 10 {
		m := started(t, program(t, samples.Text(n)), 2000)
		c := started(t, program(t, samples.Text(n)), 2000)
		for range 500 {
			l := m.Frames()
			overwrite(l)
			m.Step()
			c.Step()
		}
		wantFrames(t, m, c.Frames()...)
	}
}

// TestPut (12.2): right frames take the place of those that there are; the state remains.
func TestPut(t *testing.T) {
	m, _ := deep(t)
	w := m.World()
	before := lookAt(w)
	for _, l := range [][]api.Frame{
		{{Func: fNone}}, callers(api.MaxFrames), {{Func: fEight, PC: 8}, {Func: fNone}},
		{{Func: fSum, PC: 2, Locals: []uint64{1, 2, 3}, Stack: []uint64{1 << 63, 5}}},
	} {
		if !m.Put(l) {
			t.Fatalf("12.2: Put of %v", l)
		}
		wantOver(t, m, interp.Going, api.NoTrap)
		wantFrames(t, m, l...)
		if m.World() != w {
			t.Error("12.2: another World")
		}
		wantWorld(t, w, before)
	}
	m.Step()
	wantFrames(t, m, api.Frame{Func: fSum, PC: 3, Locals: []uint64{1, 2, 3}, Stack: []uint64{1<<63 + 5}})
}

// TestPutWrong (12.2): frames that are not right change nothing.
func TestPutWrong(t *testing.T) {
	p := sample(in(code.Ret))
	m := started(t, p, 100)
	if !m.Put([]api.Frame{{Func: fEight, PC: 8}, {Func: fNone}}) {
		t.Fatal("12.2: Put")
	}
	want := m.Frames()
	for i, l := range wrong() {
		if m.Put(l) {
			t.Errorf("12.2: Put of frames %d", i)
		}
		wantFrames(t, m, want...)
		wantOver(t, m, interp.Going, api.NoTrap)
	}
	if n := m.Run(100); n != 2 {
		t.Errorf("12.2: Run behind Put: %d", n)
	}
}

// TestPutKeepsNothing (12.2, R2): a copy is kept, the list is not turned.
func TestPutKeepsNothing(t *testing.T) {
	m, want := deep(t)
	spare := make([]uint64, 3, 10)
	copy(spare, []uint64{5, 6, 7})
	l := frames.Copy(want)
	l[2].Locals, l[2].Stack = spare, append(make([]uint64, 0, 10), 8, 9)
	if !m.Put(l) {
		t.Fatal("12.2: Put")
	}
	m.Step()
	if !frames.Same(l, want) || spare[:10][3] != 0 || l[2].Stack[:10][2] != 0 {
		t.Error("R2: Put turned what it was given")
	}
	m.Put(l)
	overwrite(l)
	wantFrames(t, m, want...)
	a, b := going(t, sample(in(code.Ret)), m.World(), want[1:]...), want[1:]
	overwrite(b)
	wantFrames(t, a, m.Frames()[1:]...)
}

// TestCopy (12.2, R7): a copy and its original go their own ways, whichever goes on first.
func TestCopy(t *testing.T) {
	for _, swap := range []bool{false, true} {
		p := sample(in(code.Input), in(code.Store), in(code.New, tP), in(code.Pop), in(code.Load), in(code.Print, api.Int), in(code.Jump))
		m := started(t, p, 100, 1, 2, 3, 4)
		m.Run(7)
		a, b := m, m.Copy()
		if a == b || a.World() == b.World() || a.World().Heap() == b.World().Heap() {
			t.Fatal("12.2: no copy")
		}
		if swap {
			a, b = b, a
		}
		want, world := b.Frames(), lookAt(b.World())
		wantFrames(t, a, want...)
		wantWorld(t, a.World(), world)
		a.Run(100)
		wantOver(t, b, interp.Going, api.NoTrap)
		wantFrames(t, b, want...)
		wantWorld(t, b.World(), world)
		if !b.Put(frames.First(p)) {
			t.Error("12.2: Put")
		}
		b.Run(6)
		if !slices.Equal(b.World().Trace(), []string{"1", "2"}) || a.World().Taken() != 4 {
			t.Errorf("12.2: %q", b.World().Trace())
		}
	}
}

// TestCopyOfOver (12.2): a copy of what is over is over in the same way.
func TestCopyOfOver(t *testing.T) {
	for n := range 40 {
		m := started(t, program(t, samples.Text(n)), 2000, 1)
		m.Run(20000)
		c := m.Copy()
		state, trap := m.Over()
		wantOver(t, c, state, trap)
		wantFrames(t, c, m.Frames()...)
		wantWorld(t, c.World(), lookAt(m.World()))
		if state != interp.Going && (c.Run(5) != 0 || c.Put(frames.First(program(t, samples.Text(n))))) {
			t.Error("12.2: the copy is not over")
		}
	}
}

// TestAlike (12.3): Machines in the same state go on alike: a copy, one that At makes, and one that begins anew.
func TestAlike(t *testing.T) {
	for n := range 60 {
		p := program(t, samples.Text(n))
		m, anew := started(t, p, 2000, 4, -1), started(t, p, 2000, 4, -1)
		at := 37 * (n + 1)
		m.Run(at)
		l := []*interp.Machine{m.Copy(), anew}
		anew.Run(at)
		if state, _ := m.Over(); state == interp.Going {
			l = append(l, going(t, p, m.World().Copy(), m.Frames()...))
		}
		steps := m.Run(5000)
		state, trap := m.Over()
		for _, c := range l {
			if s := c.Run(5000); s != steps {
				t.Fatalf("12.3: text %d: %d steps, not %d", n, s, steps)
			}
			wantOver(t, c, state, trap)
			wantFrames(t, c, m.Frames()...)
			wantWorld(t, c.World(), lookAt(m.World()))
		}
	}
}

// TestOnTheWay (9.4, 12.3): at each step the frames are right, so that no instruction takes a word that is not there.
func TestOnTheWay(t *testing.T) {
	for n := range 20 {
		p := program(t, samples.Text(n))
		m := started(t, p, 2000, 4, -1)
		for range 200 {
			if state, _ := m.Over(); state == interp.Done {
				break
			}
			if l := m.Frames(); !frames.Right(p, l) {
				t.Fatalf("12.3: text %d: %v", n, l)
			}
			m.Step()
		}
	}
}
