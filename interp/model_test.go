package interp_test

import (
	"math/big"
	"testing"

	"turnstone/api"
	"turnstone/code"
	"turnstone/frames"
	"turnstone/interp"
	"turnstone/samples"
	"turnstone/verify"
	"turnstone/world"
)

// dice gives the same numbers in every run.
type dice uint64

func (d *dice) below(n int) int {
	*d = *d*6364136223846793005 + 1442695040888963407
	return int(uint64(*d) >> 33 % uint64(n))
}

// model says the chapter again: an instruction really takes its words, and if it traps, all becomes again what it was.
type model struct {
	p     api.Prog
	w     *world.World
	l     []api.Frame
	state int
	trap  int
}

// trapped is what an instruction of a model panics with.
type trapped int

func (m *model) step() {
	if m.state != interp.Going {
		return
	}
	l, w := frames.Copy(m.l), m.w.Copy()
	defer func() {
		if trap, is := recover().(trapped); is {
			m.state, m.trap, m.l, m.w = interp.Trap, int(trap), l, w
		}
	}()
	x := m.top()
	m.do(x, m.p.Funcs[x.Func].Code[x.PC])
}

func (m *model) top() *api.Frame { return &m.l[len(m.l)-1] }

func (m *model) pop() uint64 {
	x := m.top()
	v := x.Stack[len(x.Stack)-1]
	x.Stack = x.Stack[:len(x.Stack)-1]
	return v
}

func (m *model) push(v uint64) {
	x := m.top()
	x.Stack = append(x.Stack, v)
}

func (m *model) pushBool(is bool) {
	m.push(bit(is)[0])
}

func need(ok bool, trap int) {
	if !ok {
		panic(trapped(trap))
	}
}

func (m *model) do(x *api.Frame, in api.Instr) {
	next := x.PC + 1
	switch in.Op {
	case code.Jump:
		next = in.A
	case code.JumpNo:
		if m.pop() == 0 {
			next = in.A
		}
	case code.Call, code.Invoke:
		m.enter(in)
		return
	case code.Ret:
		m.leave(in.A)
		return
	case code.Store:
		x.Locals[in.A] = m.pop()
	case code.Pop:
		m.pop()
	case code.Print:
		m.w.Print(in.A, m.pop())
	case code.SetField:
		v, ref := m.pop(), m.pop()
		need(ref != 0, api.Null)
		m.w.Heap().Set(ref, in.A, v)
	case code.SetAt:
		v, i, ref := m.pop(), int64(m.pop()), m.pop()
		m.within(ref, i)
		m.w.Heap().Set(ref, int(i), v)
	default:
		m.give(in)
	}
	m.top().PC = next
}

// give does what pushes a word.
func (m *model) give(in api.Instr) {
	h := m.w.Heap()
	switch in.Op {
	case code.Num:
		m.push(uint64(m.p.Nums[in.A]))
	case code.Bit:
		m.pushBool(in.A == 1)
	case code.Lit:
		m.push(m.w.Lit(in.A))
	case code.Null:
		m.push(0)
	case code.Load:
		m.push(m.top().Locals[in.A])
	case code.Neg:
		m.push(^m.pop() + 1)
	case code.Not:
		m.pushBool(m.pop() == 0)
	case code.Field:
		ref := m.pop()
		need(ref != 0, api.Null)
		m.push(h.Get(ref, in.A))
	case code.At:
		i, ref := int64(m.pop()), m.pop()
		m.within(ref, i)
		m.push(h.Get(ref, int(i)))
	case code.TextAt:
		i, s := int64(m.pop()), h.String(m.pop())
		need(i >= 0 && i < int64(len(s)), api.Index)
		m.push(uint64(s[i]))
	case code.Len:
		m.push(uint64(h.Len(m.pop())))
	case code.New:
		m.got(m.w.Object(in.A))
	case code.Make:
		n := int64(m.pop())
		need(n >= 0 && n <= api.MaxLen, api.Size)
		m.got(m.w.Slice(in.A, n))
	case code.Cast:
		ref := m.pop()
		need(ref != 0 && h.Type(ref) == in.A, api.Cast)
		m.push(ref)
	case code.Input:
		m.push(m.w.Input())
	default:
		b := m.pop()
		m.join(in.Op, m.pop(), b)
	}
}

func (m *model) got(ref uint64, ok bool) {
	need(ok, api.Memory)
	m.push(ref)
}

func (m *model) within(ref uint64, i int64) {
	need(ref != 0, api.Null)
	need(i >= 0 && i < int64(m.w.Heap().Len(ref)), api.Index)
}

// join makes a word of two.
func (m *model) join(op int, a, b uint64) {
	x, y, z := big.NewInt(int64(a)), big.NewInt(int64(b)), new(big.Int)
	s, t := m.w.Heap().String(a), m.w.Heap().String(b)
	switch op {
	case code.Add:
		m.push(wrapped(z.Add(x, y)))
	case code.Sub:
		m.push(wrapped(z.Sub(x, y)))
	case code.Mul:
		m.push(wrapped(z.Mul(x, y)))
	case code.Div:
		need(b != 0, api.Div)
		m.push(wrapped(z.Quo(x, y)))
	case code.Rem:
		need(b != 0, api.Div)
		m.push(wrapped(z.Rem(x, y)))
	case code.Eq:
		m.pushBool(a == b)
	case code.Ne:
		m.pushBool(a != b)
	case code.Lt:
		m.pushBool(x.Cmp(y) < 0)
	case code.Le:
		m.pushBool(x.Cmp(y) <= 0)
	case code.Gt:
		m.pushBool(x.Cmp(y) > 0)
	case code.Ge:
		m.pushBool(x.Cmp(y) >= 0)
	case code.TextEq:
		m.pushBool(s == t)
	case code.TextNe:
		m.pushBool(s != t)
	case code.TextLt:
		m.pushBool(s < t)
	case code.TextLe:
		m.pushBool(s <= t)
	case code.Cat:
		need(len(s)+len(t) <= api.MaxLen, api.Memory)
		m.got(m.w.Heap().Text(s + t))
	default:
		panic(code.Name(op))
	}
}

func (m *model) enter(in api.Instr) {
	args := make([]uint64, in.B)
	for i := range args {
		args[in.B-1-i] = m.pop()
	}
	f := in.A
	if in.Op == code.Invoke {
		f = m.method(args[0], m.p.Texts[in.A])
	}
	need(len(m.l) < api.MaxFrames, api.Depth)
	m.l = append(m.l, frames.Enter(m.p, f, args))
}

func (m *model) method(ref uint64, name string) int {
	need(ref != 0, api.Null)
	of := m.w.Heap().Type(ref)
	need(of < len(m.p.Types), api.Null)
	for _, own := range m.p.Types[of].Methods {
		if own.Name == name && own.Func >= 0 {
			return own.Func
		}
	}
	panic(trapped(api.Null))
}

func (m *model) leave(gives int) {
	var results []uint64
	for range gives {
		results = append(results, m.pop())
	}
	m.l = m.l[:len(m.l)-1]
	if len(m.l) == 0 {
		m.state = interp.Done
		return
	}
	for _, v := range results {
		m.push(v)
	}
	m.top().PC++
}

// wantModel compares a Machine and a model in all that can be seen.
func wantModel(t *testing.T, m *interp.Machine, with *model, n, step int) {
	t.Helper()
	state, trap := m.Over()
	if state != with.state || trap != with.trap || !frames.Same(m.Frames(), with.l) || !lookAt(m.World()).same(lookAt(with.w)) {
		t.Fatalf("12.2: program %d, step %d: state %d, trap %d, frames\n%v, not %d, %d\n%v", n, step, state, trap, m.Frames(), with.state, with.trap, with.l)
	}
}

// TestModel (7.1, 12.2): whole programs, step by step.
func TestModel(t *testing.T) {
	for n := range 60 {
		p := program(t, samples.Text(1000+n))
		m := started(t, p, 300+20*n, 4, -1, 0)
		with := &model{p: p, w: newWorld(t, p, 300+20*n, 4, -1, 0), l: frames.First(p)}
		for step := range 400 {
			if m.Step() != interp.Going {
				with.step()
				wantModel(t, m, with, n, step)
				break
			}
			with.step()
			if step%7 == 0 {
				wantModel(t, m, with, n, step)
			}
		}
		wantModel(t, m, with, n, 400)
	}
}

// word is one as a frame may have it, in a heap of so many words.
func (d *dice) word(used int) uint64 {
	switch d.below(8) {
	case 0, 1:
		return uint64(edges[d.below(len(edges))])
	case 2:
		return uint64(d.below(20)) - 5
	case 3:
		return 0
	}
	return uint64(d.below(used + 3))
}

// turn gives some words of frames another value.
func (d *dice) turn(l []api.Frame, used int) {
	for i := range l {
		for _, words := range [][]uint64{l[i].Locals, l[i].Stack} {
			for j := range words {
				if d.below(3) == 0 {
					words[j] = d.word(used)
				}
			}
		}
	}
}

// TestTurned (7.1, 12.2, R1): frames and heaps with any words, from states on the way of programs.
func TestTurned(t *testing.T) {
	d := dice(12)
	traps := map[int]int{}
	for n := range 500 {
		p := program(t, samples.Text(2000+n%100))
		m := started(t, p, 1000+n, 4, -1)
		m.Run(d.below(400))
		h := m.World().Heap()
		l := m.Frames()
		d.turn(l, h.Used())
		for at := uint64(1); d.below(2) == 0 && at < uint64(h.Used()); at++ {
			if d.below(10) == 0 {
				h.Put(at, d.word(h.Used()))
			}
		}
		if !m.Put(l) {
			continue
		}
		with := &model{p: p, w: m.World().Copy(), l: l}
		for step := range 60 {
			m.Step()
			with.step()
			if step%5 == 0 {
				wantModel(t, m, with, n, step)
			}
		}
		wantModel(t, m, with, n, 60)
		_, trap := m.Over()
		traps[trap]++
	}
	for trap := api.Div; trap <= api.Cast; trap++ {
		if traps[trap] == 0 {
			t.Errorf("no trap %d: %v", trap, traps)
		}
	}
}

// TestEach (7.1, 12.2, R1): each instruction of programs by itself, with any words ahead of it.
func TestEach(t *testing.T) {
	d := dice(5)
	seen := map[int]int{}
	for n := range 30 {
		p := program(t, samples.Text(3000+n))
		base := started(t, p, 400, 4, -1)
		base.Run(200)
		for f := range p.Funcs {
			heights, _ := verify.Heights(p, f)
			for pc, x := range p.Funcs[f].Code {
				if seen[x.Op] > 40 || heights[pc] < 0 {
					continue
				}
				w := base.World().Copy()
				l := []api.Frame{{Func: f, PC: pc, Locals: make([]uint64, len(p.Funcs[f].Locals)), Stack: make([]uint64, heights[pc])}}
				d.turn(l, w.Heap().Used())
				m := going(t, p, w, l...)
				with := &model{p: p, w: w.Copy(), l: m.Frames()}
				m.Step()
				with.step()
				wantModel(t, m, with, n, pc)
				seen[x.Op]++
			}
		}
	}
	for op := code.Num; op <= code.Ret; op++ {
		if seen[op] == 0 {
			t.Errorf("no %s", code.Name(op))
		}
	}
}
