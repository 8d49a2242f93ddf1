package compile_test

import (
	"fmt"
	"slices"
	"strings"
	"testing"

	"turnstone/api"
	"turnstone/code"
	"turnstone/compile"
	"turnstone/kinds"
	"turnstone/verify"
)

// wantSound looks whether a program is one that may be executed: verify.Verify accepts it, and so does the walk below, which does not hang on it.
func wantSound(t *testing.T, p api.Prog) {
	t.Helper()
	if where, e := verify.Verify(p); e != api.OK {
		t.Errorf("8.4: Verify answers %d at %v", e, where)
	}
	if fault := unsound(p); fault != "" {
		t.Errorf("8.4: %s", fault)
	}
}

// unsound tells what is wrong with a program, by the rules of the chapter on verifying, or nothing.
func unsound(p api.Prog) string {
	if !kinds.Right(p.Types) || len(p.Funcs) > api.MaxFuncs || len(p.Nums) > 10000 || len(p.Texts) > 10000 {
		return "the program is too large, or its types are not right"
	}
	for _, s := range p.Texts {
		if len(s) > api.MaxLen {
			return "a text is too long"
		}
	}
	if main := p.Funcs[p.Main]; len(main.Params) > 0 || main.Result != api.Void {
		return "main takes or gives something"
	}
	for _, of := range p.Types {
		for _, m := range of.Methods {
			if of.Kind == api.Struct && (!slices.Equal(p.Funcs[m.Func].Params[1:], m.Params) || p.Funcs[m.Func].Result != m.Result) {
				return "the method " + m.Name + " is not what its function is"
			}
		}
	}
	for i, f := range p.Funcs {
		if len(f.Params) > api.MaxParams || len(f.Locals) > api.MaxLocals || !slices.Equal(f.Params, f.Locals[:len(f.Params)]) || len(f.Code) == 0 || len(f.Code) > api.MaxCode {
			return fmt.Sprintf("function %d: %+v", i, f)
		}
		w := &stepper{p: p, f: f}
		if fault := w.walk(); fault != "" {
			return fmt.Sprintf("function %d: %s", i, fault)
		}
	}
	return ""
}

// stepper goes over the code of a function with the types of the words on the stack.
type stepper struct {
	p     api.Prog
	f     api.Func
	stack []int
	fault string
}

// walk goes over all that is reached. It also asks that each instruction has operands that may be, reached or not.
func (w *stepper) walk() string {
	for pc, in := range w.f.Code {
		if !w.valid(in) || pc == len(w.f.Code)-1 && in.Op != code.Jump && in.Op != code.Ret {
			return fmt.Sprintf("pc %d: %v may not be", pc, in)
		}
	}
	known, waiting := map[int][]int{0: {}}, []int{0}
	for len(waiting) > 0 {
		pc := waiting[0]
		in := w.f.Code[pc]
		waiting, w.stack = waiting[1:], slices.Clone(known[pc])
		w.step(in)
		if w.fault != "" || len(w.stack) > api.MaxStack {
			return fmt.Sprintf("pc %d: %s %v: %s, stack %v", pc, code.Name(in.Op), in, w.fault, w.stack)
		}
		for _, to := range code.Targets(in, pc) {
			before, ok := known[to]
			if ok && !slices.Equal(before, w.stack) {
				return fmt.Sprintf("pc %d: the stack of %d differs: %v, %v", pc, to, before, w.stack)
			}
			if !ok {
				known[to], waiting = slices.Clone(w.stack), append(waiting, to)
			}
		}
	}
	return ""
}

func (w *stepper) isKind(t int, wanted ...int) bool {
	return t >= 0 && t < len(w.p.Types) && slices.Contains(wanted, w.p.Types[t].Kind)
}

// valid reports whether the operands of an instruction exist.
func (w *stepper) valid(in api.Instr) bool {
	within := func(n int) bool { return in.A >= 0 && in.A < n }
	switch in.Op {
	case code.Num:
		return within(len(w.p.Nums)) && in.B == 0
	case code.Lit:
		return within(len(w.p.Texts)) && in.B == 0
	case code.Bit, code.Ret:
		return within(2) && in.B == 0
	case code.Null:
		return kinds.IsRef(w.p.Types, in.A) && in.B == 0
	case code.Load, code.Store:
		return within(len(w.f.Locals)) && in.B == 0
	case code.Jump, code.JumpNo:
		return within(len(w.f.Code)) && in.B == 0
	case code.Field, code.SetField:
		return within(api.MaxFields) && in.B == 0
	case code.New, code.Cast:
		return w.isKind(in.A, api.Struct) && in.B == 0
	case code.Make:
		return w.isKind(in.A, api.Slice) && in.B == 0
	case code.Print:
		return in.A >= api.Int && in.A <= api.Text && in.B == 0
	case code.Call:
		return within(len(w.p.Funcs)) && in.B == len(w.p.Funcs[in.A].Params)
	case code.Invoke:
		return within(len(w.p.Texts)) && in.B >= 1 && in.B <= api.MaxParams
	}
	return code.Name(in.Op) != "" && in.A == 0 && in.B == 0
}

// need keeps the first thing that is wrong.
func (w *stepper) need(ok bool, what string) {
	if !ok && w.fault == "" {
		w.fault = what
	}
}

func (w *stepper) pop() int {
	if len(w.stack) == 0 {
		w.need(false, "a word that does not exist")
		return api.Void
	}
	of := w.stack[len(w.stack)-1]
	w.stack = w.stack[:len(w.stack)-1]
	return of
}

func (w *stepper) push(of int) {
	if of != api.Void {
		w.stack = append(w.stack, of)
	}
}

// take takes words of exactly these types, the last one from the top.
func (w *stepper) take(types ...int) {
	for i := len(types) - 1; i >= 0; i-- {
		got := w.pop()
		w.need(got == types[i], "another type is needed")
	}
}

// fitting takes words that may stand for these types, the last one from the top.
func (w *stepper) fitting(types ...int) {
	for i := len(types) - 1; i >= 0; i-- {
		got := w.pop()
		w.need(kinds.Fits(w.p.Types, got, types[i]), "a word does not fit")
	}
}

// step executes an instruction on types.
func (w *stepper) step(in api.Instr) {
	switch in.Op {
	case code.Num, code.Input:
		w.push(api.Int)
	case code.Bit:
		w.push(api.Bool)
	case code.Lit:
		w.push(api.Text)
	case code.Null, code.New:
		w.push(in.A)
	case code.Load:
		w.push(w.f.Locals[in.A])
	case code.Store:
		w.fitting(w.f.Locals[in.A])
	case code.Pop:
		w.pop()
	case code.JumpNo:
		w.take(api.Bool)
	case code.Print:
		w.take(in.A)
	case code.Call:
		w.fitting(w.p.Funcs[in.A].Params...)
		w.push(w.p.Funcs[in.A].Result)
	case code.Ret:
		w.need(in.A == 1 == (w.f.Result != api.Void), "a Ret of the other kind")
		if in.A == 1 {
			w.fitting(w.f.Result)
		}
		w.need(len(w.stack) == 0, "a Ret leaves words")
	case code.Make:
		w.take(api.Int)
		w.push(in.A)
	case code.Jump:
	default:
		w.sign(in)
	}
}

// sign executes an instruction that a sign, or no sign, makes of words.
func (w *stepper) sign(in api.Instr) {
	switch in.Op {
	case code.Add, code.Sub, code.Mul, code.Div, code.Rem:
		w.take(api.Int, api.Int)
		w.push(api.Int)
	case code.Neg:
		w.take(api.Int)
		w.push(api.Int)
	case code.Not:
		w.take(api.Bool)
		w.push(api.Bool)
	case code.Lt, code.Le, code.Gt, code.Ge:
		w.take(api.Int, api.Int)
		w.push(api.Bool)
	case code.Cat:
		w.take(api.Text, api.Text)
		w.push(api.Text)
	case code.TextEq, code.TextNe, code.TextLt, code.TextLe:
		w.take(api.Text, api.Text)
		w.push(api.Bool)
	case code.Eq, code.Ne:
		b, a := w.pop(), w.pop()
		w.need(a == b && a != api.Text || kinds.Has(w.p.Types, a, b) || kinds.Has(w.p.Types, b, a), "two types that may not be compared")
		w.push(api.Bool)
	case code.TextAt:
		w.take(api.Text, api.Int)
		w.push(api.Int)
	default:
		w.object(in)
	}
}

// object executes an instruction on an object.
func (w *stepper) object(in api.Instr) {
	of := api.Void
	switch in.Op {
	case code.SetField, code.SetAt:
		of = w.pop()
	case code.Invoke:
		w.invoke(in)
		return
	}
	if in.Op == code.At || in.Op == code.SetAt {
		w.take(api.Int)
	}
	x := w.pop()
	t := w.p.Types[x]
	switch in.Op {
	case code.Field, code.SetField:
		w.need(t.Kind == api.Struct && in.A < len(t.Fields), "no such field")
	case code.At, code.SetAt:
		w.need(t.Kind == api.Slice, "no slice")
	case code.Len:
		w.need(t.Kind == api.Slice || x == api.Text, "no length")
		w.push(api.Int)
		return
	case code.Cast:
		w.need(kinds.Has(w.p.Types, in.A, x), "no such cast")
		w.push(in.A)
		return
	}
	if w.fault != "" {
		return
	}
	inner := t.Elem
	if t.Kind == api.Struct {
		inner = t.Fields[in.A].Type
	}
	if in.Op == code.Field || in.Op == code.At {
		w.push(inner)
		return
	}
	w.need(kinds.Fits(w.p.Types, of, inner), "what is set does not fit")
}

func (w *stepper) invoke(in api.Instr) {
	w.need(len(w.stack) >= in.B, "fewer words than an Invoke takes")
	if w.fault != "" {
		return
	}
	x := w.stack[len(w.stack)-in.B]
	i, ok := kinds.Method(w.p.Types, x, w.p.Texts[in.A])
	w.need(ok && w.p.Types[x].Kind == api.Face, "no such method")
	if ok {
		m := w.p.Types[x].Methods[i]
		w.need(len(m.Params) == in.B-1, "another number of arguments")
		w.fitting(m.Params...)
		w.take(x)
		w.push(m.Result)
	}
}

// TestUnsound (8.4): the walk above finds what is wrong, so that its silence says something.
func TestUnsound(t *testing.T) {
	const s = "type P struct { x int }; type I interface { m(int) int }; func (p P) m(a int) int { return a }; " +
		"func main() { var i I = new(P); x := i.m(1); for x < 2 { if x == 1 && true { print(\"a\" + \"b\") }; x = x + 1 } }"
	whole := program(t, s)
	wantSound(t, whole)
	for pc := range whole.Funcs[1].Code {
		turns := 0
		for _, turn := range []func(in *api.Instr){
			func(in *api.Instr) { in.Op = code.Pop },
			func(in *api.Instr) { in.Op = code.Neg },
			func(in *api.Instr) { *in = api.Instr{Op: code.Lit} },
			func(in *api.Instr) { *in = api.Instr{Op: code.Null, A: 5} },
			func(in *api.Instr) { in.A += 100 },
		} {
			p := program(t, s)
			turn(&p.Funcs[1].Code[pc])
			if unsound(p) != "" {
				turns++
			}
		}
		if turns < 4 {
			t.Errorf("8.4: only %d turns of pc %d are found", turns, pc)
		}
	}
}

// TestTooLargeForVerify (8.4): what is refused for its size later is a program here.
func TestTooLargeForVerify(t *testing.T) {
	long := strings.Repeat("m", api.MaxLen+1)
	p := program(t, "type I interface { "+long+"() }; func f(i I) { i."+long+"() }"+plainMain)
	if len(p.Texts) != 1 || p.Texts[0] != long {
		t.Error("8.4: the name of a method that is longer than MaxLen")
	}
	p = program(t, "type I interface { m(int, int, int, int, int, int, int, int) }; func f(i I) { i.m(1, 2, 3, 4, 5, 6, 7, 8) }"+plainMain)
	if in := p.Funcs[0].Code[9]; in != (api.Instr{Op: code.Invoke, A: 0, B: 9}) {
		t.Errorf("8.4: %v", in)
	}
	// A method of a struct is called, so that neither its name nor its parameters are too much.
	p = program(t, "type P struct { }; func (p P) "+long+"(a int, b int, c int, d int, e int, f int, g int) { }; func f(p P) { p."+long+"(1, 2, 3, 4, 5, 6, 7) }"+plainMain)
	if in := p.Funcs[1].Code[8]; in != (api.Instr{Op: code.Call, A: 0, B: 8}) || len(p.Texts) != 0 {
		t.Errorf("8.4: %v", in)
	}
	wantSound(t, p)
}

// TestHighStacks (8.4): right operands, indexes and last arguments within each other are taken, however high the stack gets.
func TestHighStacks(t *testing.T) {
	const deep = 37
	for _, c := range []struct{ begin, end string }{
		{"1 + (", ")"},
		{"l[", "]"},
		{"f(1, 2, 3, ", ")"},
		{"l[1 + f(1, 2, 3, 4 + (", "))]"},
	} {
		times := deep / max(1, strings.Count(c.begin, "(")+strings.Count(c.begin, "["))
		s := "func f(a int, b int, c int, d int) int { return a }; func main() { l := make([]int, 1); print(" + strings.Repeat(c.begin, times) + "1" + strings.Repeat(c.end, times) + ") }"
		p, at, e := compile.Text(s)
		if e != api.OK {
			t.Errorf("8.4: %q is %d at %v", s, e, at)
			continue
		}
		if fault := unsound(p); (fault != "") != (strings.Count(c.begin, ",") > 0) {
			t.Errorf("8.4: %q: %s", s, fault)
		}
	}
}
