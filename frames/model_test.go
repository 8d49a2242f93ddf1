package frames_test

import (
	"slices"
	"testing"

	"turnstone/api"
	"turnstone/code"
	"turnstone/compile"
	"turnstone/frames"
	"turnstone/kinds"
	"turnstone/verify"
)

// modelRight says the chapter again, frame by frame and in its order.
func modelRight(p api.Prog, l []api.Frame) bool {
	if len(l) < 1 || len(l) > api.MaxFrames {
		return false
	}
	for i, x := range l {
		types, reached := verify.Types(p, x.Func, x.PC)
		if !reached || len(x.Locals) != len(p.Funcs[x.Func].Locals) {
			return false
		}
		if i < len(l)-1 {
			in := p.Funcs[x.Func].Code[x.PC]
			switch in.Op {
			case code.Call:
				types = types[:len(types)-len(p.Funcs[in.A].Params)]
			case code.Invoke:
				face := p.Types[types[len(types)-in.B]]
				m := slices.IndexFunc(face.Methods, func(m api.Method) bool { return m.Name == p.Texts[in.A] })
				types = types[:len(types)-1-len(face.Methods[m].Params)]
			default:
				return false
			}
		}
		if len(x.Stack) != len(types) {
			return false
		}
	}
	return true
}

// text returns the program of a text that must be one.
func text(t *testing.T, s string) api.Prog {
	t.Helper()
	p, at, e := compile.Text(s)
	if e != api.OK {
		t.Fatalf("%d at %v: %q", e, at, s)
	}
	return p
}

// programs are sample and some texts: recursion, methods by Call and by Invoke, calls within calls, code that is never come to.
func programs(t *testing.T) []api.Prog {
	t.Helper()
	return []api.Prog{
		sample(),
		text(t, "func main() { }"),
		text(t, "func f() { f() }; func main() { f() }"),
		text(t, "func fib(n int) int { if n < 2 { return n }; return fib(n - 1) + fib(n - 2) }; func main() { print(fib(20)) }"),
		text(t, "func f(a int, b int) int { for { if a < b { return a }; a = a - f(b, a) } }; func main() { x := 1 + f(2, f(3, 4)); print(x); print(f(f(1, 2), x)) }"),
		text(t, `type S interface { area(int) int; name() string }
			type A struct { w int; next S }
			type B struct { l []int }
			func (a A) area(k int) int { if a.next == nil { return k * a.w }; return a.w + a.next.area(k + a.area(1)) }
			func (a A) name() string { return "a" }
			func (b B) area(k int) int { if k > len(b.l) { return 0 }; return b.l[k] + b.area(k + 1) }
			func (b B) name() string { return "b" + b.other().name() }
			func (b B) other() S { return new(A) }
			func all(s S, t S) int { return s.area(t.area(s.area(3))) * t.area(2) }
			func main() { var s S = new(A); b := new(B); for input() > 0 { print(s.name() + b.name()); print(1 + all(s, b)); s = b } }`),
	}
}

// dice gives the same numbers in every run.
type dice uint64

func (d *dice) below(n int) int {
	*d = *d*6364136223846793005 + 1442695040888963407
	return int(uint64(*d) >> 33 % uint64(n))
}

// run is a machine without words: it goes from state to state as chapter 12 says, but each branch and each receiver is picked.
type run struct {
	dice
	p api.Prog
	l []api.Frame
}

// step executes one instruction, and reports whether the run goes on.
func (r *run) step() bool {
	x := &r.l[len(r.l)-1]
	in := r.p.Funcs[x.Func].Code[x.PC]
	switch in.Op {
	case code.Call, code.Invoke:
		return r.call(x, in)
	case code.Ret:
		return r.ret(in)
	}
	takes, gives, _ := code.Moves(in.Op)
	r.take(x, takes)
	r.give(x, gives)
	next := code.Targets(in, x.PC)
	x.PC = next[r.below(len(next))]
	return true
}

func (r *run) take(x *api.Frame, n int) []uint64 {
	taken := x.Stack[len(x.Stack)-n:]
	x.Stack = x.Stack[:len(x.Stack)-n]
	return taken
}

func (r *run) give(x *api.Frame, n int) {
	for range n {
		x.Stack = append(x.Stack, uint64(r.below(1000)))
	}
}

// call appends the frame of what is called; a run that would be too deep is over.
func (r *run) call(x *api.Frame, in api.Instr) bool {
	if len(r.l) == api.MaxFrames {
		return false
	}
	f := in.A
	if in.Op == code.Invoke {
		f = r.method(x, in)
	}
	args := r.take(x, len(r.p.Funcs[f].Params))
	r.l = append(r.l, frames.Enter(r.p, f, args))
	return true
}

// method picks a receiver that fits, and returns the function of its method.
func (r *run) method(x *api.Frame, in api.Instr) int {
	types, _ := verify.Types(r.p, x.Func, x.PC)
	face := types[len(types)-in.B]
	var all []int
	for s, of := range r.p.Types {
		if kinds.Has(r.p.Types, s, face) {
			m, _ := kinds.Method(r.p.Types, s, r.p.Texts[in.A])
			all = append(all, of.Methods[m].Func)
		}
	}
	return all[r.below(len(all))]
}

// ret removes the last frame, and goes on in the one below.
func (r *run) ret(in api.Instr) bool {
	r.l = r.l[:len(r.l)-1]
	if len(r.l) == 0 {
		return false
	}
	x := &r.l[len(r.l)-1]
	r.give(x, in.A)
	x.PC++
	return true
}

// TestRightOnTheWay (11.1, 11.2): all that a run comes to is right, from First on, whichever way it goes, and remains so in a copy.
func TestRightOnTheWay(t *testing.T) {
	deepest := 0
	for i, p := range programs(t) {
		for seed := range 12 {
			r := run{dice: dice(seed), p: p, l: frames.First(p)}
			for step := range 250 {
				c := frames.Copy(r.l)
				if !frames.Right(p, r.l) || !frames.Same(c, r.l) || !frames.Right(p, c) {
					t.Fatalf("11.2: program %d, seed %d, step %d: %v", i, seed, step, r.l)
				}
				deepest = max(deepest, len(r.l))
				if !r.step() {
					break
				}
				if frames.Same(c, r.l) && r.p.Funcs[c[0].Func].Code[c[0].PC].Op != code.Jump {
					t.Fatalf("11.1: program %d, seed %d, step %d: a step that leaves all as it was", i, seed, step)
				}
			}
		}
	}
	if deepest != api.MaxFrames {
		t.Errorf("only %d frames were come to", deepest)
	}
}

// TestRightModel (11.2): lists that a run comes to, with one thing turned, are right where the model says so.
func TestRightModel(t *testing.T) {
	right, wrong := 0, 0
	for i, p := range programs(t) {
		for seed := range 6 {
			r := run{dice: dice(seed), p: p, l: frames.First(p)}
			for on := true; on && r.below(120) > 0; on = r.step() {
				l := frames.Copy(r.l)
				r.turn(&l[r.below(len(l))])
				want := modelRight(p, l)
				if frames.Right(p, l) != want {
					t.Fatalf("11.2: program %d, seed %d: not %v: %v", i, seed, want, l)
				}
				if want {
					right++
				} else {
					wrong++
				}
			}
		}
	}
	if right < 50 || wrong < 50 {
		t.Errorf("%d right and %d wrong ones", right, wrong)
	}
}

// turn makes a frame another one, which may be right all the same.
func (r *run) turn(x *api.Frame) {
	n := len(r.p.Funcs[x.Func].Code)
	switch r.below(6) {
	case 0:
		x.Func = r.below(len(r.p.Funcs)+2) - 1
	case 1:
		x.PC = r.below(n+2) - 1
	case 2:
		x.PC += r.below(5) - 2
	case 3:
		x.Locals = words(r.below(len(x.Locals) + 2))
	case 4:
		x.Stack = words(r.below(len(x.Stack) + 3))
	default:
		x.PC, x.Stack = r.below(n), words(r.below(len(x.Stack)+2))
	}
}

// TestRightAll (11.2): every function, pc, number of locals and of words that is near to what there is, alone, calling, and above a caller.
func TestRightAll(t *testing.T) {
	for i, p := range programs(t) {
		under := callers(p)
		for f := -1; f <= len(p.Funcs); f++ {
			for _, x := range near(p, f) {
				for _, l := range [][]api.Frame{{x}, {x, frames.First(p)[0]}, append(under[:len(under):len(under)], x)} {
					if want := modelRight(p, l); frames.Right(p, l) != want {
						t.Fatalf("11.2: program %d: not %v: %v", i, want, l)
					}
				}
			}
		}
	}
}

// callers returns a list of one frame that may call, or of none if there is no such frame.
func callers(p api.Prog) []api.Frame {
	for f := range p.Funcs {
		for _, x := range near(p, f) {
			if modelRight(p, []api.Frame{x, frames.First(p)[0]}) {
				return []api.Frame{x}
			}
		}
	}
	return nil
}

// near are the frames of f at each pc and at those about them, with more and with fewer locals and words than there are.
func near(p api.Prog, f int) []api.Frame {
	locals, last := 0, 0
	if f >= 0 && f < len(p.Funcs) {
		locals, last = len(p.Funcs[f].Locals), len(p.Funcs[f].Code)
	}
	var l []api.Frame
	for pc := -1; pc <= last; pc++ {
		for n := max(locals-1, 0); n <= locals+1; n++ {
			for stack := range 6 {
				l = append(l, frame(f, pc, n, stack))
			}
		}
	}
	return l
}
