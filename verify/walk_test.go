package verify_test

import (
	"fmt"
	"slices"
	"strings"
	"testing"

	"turnstone/api"
	"turnstone/code"
	"turnstone/verify"
)

// names are those of the types of values.
var names = []string{"int", "bool", "string", "P", "[]P", "I", "Q", "E", "[]int", "R", "K", "[]I"}

// taking says which words an instruction takes, and what it pushes then.
type taking struct {
	in    api.Instr
	takes string // what it takes, one of several between two bars
	gives string
}

const (
	refs  = "P P|[]P []P|I I|Q Q|E E|[]int []int|R R|K K|[]I []I"
	has   = "P I|R I|P E|Q E|R E|I P|I R|E P|E Q|E R"
	anyOf = "int|bool|string|P|[]P|I|Q|E|[]int|R|K|[]I"
)

// takings is the table of all ops that take words, with each A that makes a difference.
func takings() []taking {
	l := []taking{
		{in(code.Neg), "int", "int"},
		{in(code.Not), "bool", "bool"},
		{in(code.Cat), "string string", "string"},
		{in(code.TextAt), "string int", "int"},
		{in(code.Len), "string|[]P|[]int|[]I", "int"},
		{in(code.Pop), anyOf, ""},
		{in(code.Print, api.Int), "int", ""},
		{in(code.Print, api.Bool), "bool", ""},
		{in(code.Print, api.Text), "string", ""},
		{in(code.Make, tPs), "int", "[]P"},
		{in(code.Make, tInts), "int", "[]int"},
		{in(code.Make, tIs), "int", "[]I"},
		{in(code.Cast, tP), "I|E", "P"},
		{in(code.Cast, tQ), "E", "Q"},
		{in(code.Cast, tR), "I|E", "R"},
		{in(code.Field, 0), "P|R", ""},
		{in(code.Field, 1), "P", "P"},
		{in(code.Field, 2), "P", "bool"},
		{in(code.Field, 3), "P", "string"},
		{in(code.Field, 4), "P", "I"},
		{in(code.Field, 5), "P", "[]P"},
		{in(code.Field, 6), "", ""},
		{in(code.Field, 11), "", ""},
		{in(code.SetField, 0), "P int|R int", ""},
		{in(code.SetField, 1), "P P", ""},
		{in(code.SetField, 2), "P bool", ""},
		{in(code.SetField, 3), "P string", ""},
		{in(code.SetField, 4), "P I|P P|P R", ""},
		{in(code.SetField, 5), "P []P", ""},
		{in(code.SetField, 6), "", ""},
		{in(code.SetField, 11), "", ""},
		{in(code.At), "[]P int|[]int int|[]I int", ""},
		{in(code.SetAt), "[]P int P|[]int int int|[]I int I|[]I int P|[]I int R", ""},
		{in(code.Call, fPm, 2), "P int", "int"},
		{in(code.Call, fRm, 2), "R int", "int"},
		{in(code.Call, fRk, 3), "R I P|R P P|R R P", "bool"},
		{in(code.Call, fMany, 3), "int I P|int P P|int R P", "string"},
		{in(code.Invoke, 0, 1), "", ""},
		{in(code.Invoke, 0, 2), "I int", "int"},
		{in(code.Invoke, 0, 3), "", ""},
		{in(code.Invoke, 1, 1), "", ""},
		{in(code.Invoke, 1, 2), "", ""},
		{in(code.Invoke, 1, 3), "K I P|K P P|K R P", "bool"},
		{in(code.Invoke, 2, 1), "K", ""},
		{in(code.Invoke, 2, 2), "", ""},
		{in(code.Invoke, 3, 1), "", ""},
		{in(code.Invoke, 3, 2), "", ""},
		{in(code.JumpNo, -1), "bool", ""},
	}
	for _, op := range []int{code.Add, code.Sub, code.Mul, code.Div, code.Rem} {
		l = append(l, taking{in(op), "int int", "int"})
	}
	for _, op := range []int{code.Lt, code.Le, code.Gt, code.Ge} {
		l = append(l, taking{in(op), "int int", "bool"})
	}
	for _, op := range []int{code.TextEq, code.TextNe, code.TextLt, code.TextLe} {
		l = append(l, taking{in(op), "string string", "bool"})
	}
	for _, op := range []int{code.Eq, code.Ne} {
		l = append(l, taking{in(op), "int int|bool bool|" + refs + "|" + has, "bool"})
	}
	fits := map[string]string{"I": "I|P|R", "E": "E|P|Q|R"}
	for i, name := range names {
		takes := name
		if fits[name] != "" {
			takes = fits[name]
		}
		l = append(l, taking{in(code.Store, i), takes, ""})
	}
	return l
}

// pushed is what an instruction pushes; that of Field and At hangs on what they take.
func (c taking) pushed(taken []string) string {
	switch {
	case c.in.Op == code.Field && c.in.A == 0:
		return "int"
	case c.in.Op == code.At:
		return strings.TrimPrefix(taken[0], "[]")
	}
	return c.gives
}

// tuples lists all sequences of so many names.
func tuples(n int) [][]string {
	if n == 0 {
		return [][]string{nil}
	}
	var l [][]string
	for _, first := range names {
		for _, others := range tuples(n - 1) {
			l = append(l, append([]string{first}, others...))
		}
	}
	return l
}

// takenBy is how many words an instruction takes.
func takenBy(x api.Instr) int {
	if x.Op == code.Call || x.Op == code.Invoke {
		return x.B
	}
	n, _, _ := code.Moves(x.Op)
	return n
}

func loads(l []string) []api.Instr {
	var made []api.Instr
	for _, name := range l {
		made = append(made, in(code.Load, slices.Index(names, name)))
	}
	return made
}

func numbers(l []string) []int {
	var made []int
	for _, name := range l {
		made = append(made, values[slices.Index(names, name)])
	}
	return made
}

// TestTypesTaken (9.2): every op with words of all types, above a word that it does not take.
func TestTypesTaken(t *testing.T) {
	for _, c := range takings() {
		for _, taken := range tuples(takenBy(c.in)) {
			ok := c.takes != "" && slices.Contains(strings.Split(c.takes, "|"), strings.Join(taken, " "))
			tryTaking(t, c, taken, ok)
		}
	}
}

func tryTaking(t *testing.T, c taking, taken []string, ok bool) {
	t.Helper()
	l := append(loads([]string{"string"}), loads(taken)...)
	at := len(l)
	x := c.in
	if x.Op == code.JumpNo {
		x.A = at + 1
	}
	after := []string{"string"}
	if c.pushed(taken) != "" {
		after = append(after, c.pushed(taken))
	}
	l = append(append(append(l, x), times(len(after), in(code.Pop))...), ret)
	what := fmt.Sprint("9.2: ", code.Name(x.Op), x, " of ", taken)
	if !ok {
		wantMain(t, l, at, api.ErrType, what)
		return
	}
	wantMain(t, l, 0, api.OK, what)
	for i, want := range [][]int{numbers(append([]string{"string"}, taken...)), numbers(after)} {
		if got, known := verify.Types(world(l...), fMain, at+i); !known || !slices.Equal(got, want) {
			t.Errorf("%s: %v ahead of %d, not %v", what, got, at+i, want)
		}
	}
}

// TestPushed (9.2): the ops that take nothing.
func TestPushed(t *testing.T) {
	l := []struct {
		in   api.Instr
		want []int
	}{
		{in(code.Num, 1), []int{api.Int}},
		{in(code.Bit, 1), []int{api.Bool}},
		{in(code.Lit, 3), []int{api.Text}},
		{in(code.Input), []int{api.Int}},
		{in(code.Null, api.Text), []int{api.Text}},
		{in(code.Null, tPs), []int{tPs}},
		{in(code.Null, tE), []int{tE}},
		{in(code.Null, tQ), []int{tQ}},
		{in(code.New, tP), []int{tP}},
		{in(code.New, tQ), []int{tQ}},
		{in(code.Call, fOne), []int{tP}},
		{in(code.Call, fVoid), nil},
		{in(code.Jump, 1), nil},
	}
	for i, of := range values {
		l = append(l, struct {
			in   api.Instr
			want []int
		}{in(code.Load, i), []int{of}})
	}
	for _, c := range l {
		p := world(append(append(list(c.in), times(len(c.want), in(code.Pop))...), ret)...)
		wantVerify(t, p, verify.Where{}, api.OK, fmt.Sprint("9.2: ", c.in))
		if got, ok := verify.Types(p, fMain, 1); !ok || !slices.Equal(got, c.want) {
			t.Errorf("9.2: %v pushes %v", c.in, got)
		}
	}
}

// TestFewerWords (9.2): each op with fewer words than it takes, of which none need be of the right type.
func TestFewerWords(t *testing.T) {
	for _, c := range takings() {
		x := c.in
		for n := range takenBy(x) {
			for _, name := range []string{"int", "K"} {
				if x.Op == code.JumpNo {
					x.A = n
				}
				l := append(append(loads(times(n, name)), x), ret)
				wantMain(t, l, n, api.ErrHeight, fmt.Sprint("9.2: ", n, " words"))
			}
		}
	}
	wantMain(t, list(in(code.Ret, 1)), 0, api.ErrHeight, "9.2: a Ret of nothing")
	wantMain(t, append(loads(times(7, "K")), in(code.Invoke, 2, 8), ret), 7, api.ErrHeight, "9.2: an Invoke of 8")
	wantMain(t, append(loads(times(8, "K")), in(code.Invoke, 2, 8), ret), 8, api.ErrType, "9.2: an Invoke of 8")
}

// retOf is world with a further function of a result and some code.
func retOf(result int, l ...api.Instr) api.Prog {
	p := world(ret)
	p.Funcs = append(p.Funcs, api.Func{Locals: values, Result: result, Code: l})
	return p
}

// TestRet (9.2): a Ret of functions with and without a result, of words of all types, and of more words.
func TestRet(t *testing.T) {
	fits := map[[2]int]int{{tP, tI}: 1, {tR, tI}: 1, {tP, tE}: 1, {tQ, tE}: 1, {tR, tE}: 1}
	for _, result := range append([]int{api.Void}, values...) {
		for _, of := range values {
			e, where := api.ErrType, verify.Where{Func: fN, PC: 1}
			if result != api.Void && (of == result || fits[[2]int{of, result}] == 1) {
				e, where = api.OK, verify.Where{}
			}
			what := fmt.Sprint("9.2: a Ret of ", of, " as ", result)
			wantVerify(t, retOf(result, load(of), in(code.Ret, 1)), where, e, what)
			below := verify.Where{Func: fN, PC: 2}
			if e == api.OK {
				e = api.ErrHeight
			}
			wantVerify(t, retOf(result, load(tK), load(of), in(code.Ret, 1)), below, e, what+" above another")
		}
		e, where := api.ErrType, verify.Where{Func: fN}
		if result == api.Void {
			e, where = api.OK, verify.Where{}
		}
		wantVerify(t, retOf(result, ret), where, e, "9.2: a Ret of nothing")
		if e == api.OK {
			e = api.ErrHeight
		}
		wantVerify(t, retOf(result, load(api.Int), ret), verify.Where{Func: fN, PC: 1}, e, "9.2: a Ret of nothing above a word")
		wantVerify(t, retOf(result, in(code.Ret, 1)), verify.Where{Func: fN}, api.ErrHeight, "9.2: a Ret of a word that is not there")
	}
}

// TestMaxStack (9.2): exactly MaxStack words, and one more.
func TestMaxStack(t *testing.T) {
	full := times(api.MaxStack, in(code.Num))
	empty := append(times(api.MaxStack, in(code.Pop)), ret)
	wantMain(t, slices.Concat(full, empty), 0, api.OK, "9.2: the highest stack")
	for _, x := range []api.Instr{in(code.Num), in(code.Bit), in(code.Lit), in(code.Null, tP), in(code.Load), in(code.New, tQ), in(code.Input), in(code.Call, fOne)} {
		wantMain(t, slices.Concat(full, list(x), list(in(code.Pop)), empty), api.MaxStack, api.ErrHeight, "9.2: one more")
		wantMain(t, slices.Concat(full[1:], list(x), empty), 0, api.OK, "9.2: the highest stack")
	}
	for _, x := range []api.Instr{in(code.Neg), in(code.Call, fVoid), in(code.Jump, api.MaxStack+1), in(code.Make, tPs)} {
		wantMain(t, slices.Concat(full, list(x), empty), 0, api.OK, "9.2: as many words as there were")
	}
	wantMain(t, slices.Concat(full, list(in(code.Add)), empty[1:]), 0, api.OK, "9.2: a word less")
}

// TestWalkErrorOrder (9.2): of two errors of one instruction the first, and errors of the walk where they are met.
func TestWalkErrorOrder(t *testing.T) {
	for _, c := range []struct {
		l  []api.Instr
		pc int
		e  api.Errno
	}{
		{list(load(api.Bool), in(code.Add), ret), 1, api.ErrHeight},
		{list(load(api.Bool), in(code.SetAt), ret), 1, api.ErrHeight},
		{list(in(code.Ret, 1)), 0, api.ErrHeight},
		{list(load(tP), load(tP), in(code.Ret, 1)), 2, api.ErrType},
		// The target has other types, but the instruction takes what it must not.
		{list(load(api.Int), in(code.JumpNo, 0), ret), 1, api.ErrType},
		{list(load(api.Bool), load(api.Bool), in(code.JumpNo, 0), ret), 2, api.ErrHeight},
		{list(in(code.JumpNo, 0), ret), 0, api.ErrHeight},
	} {
		wantMain(t, c.l, c.pc, c.e, "9.2")
	}
}

// TestLeastFirst (9.2): of all that is known the least pc is next, so that its error is the one that is told.
func TestLeastFirst(t *testing.T) {
	bit, pop, wrong := in(code.Bit), in(code.Pop), in(code.Not)
	jump := func(pc int) api.Instr { return in(code.Jump, pc) }
	jumpNo := func(pc int) api.Instr { return in(code.JumpNo, pc) }
	for _, c := range []struct {
		l  []api.Instr
		pc int
		e  api.Errno
	}{
		// Back, although what follows is wrong too, and was known first.
		{list(jump(2), pop, bit, jumpNo(1), wrong, ret), 1, api.ErrHeight},
		// Forth, although the target is wrong too, and was known last.
		{list(bit, jumpNo(4), pop, ret, wrong, ret), 2, api.ErrHeight},
		// From three that are known the one in the middle is met when the first is over.
		{list(bit, jumpNo(7), bit, jumpNo(6), ret, ret, pop, wrong, ret), 6, api.ErrHeight},
		{list(bit, jumpNo(6), bit, jumpNo(7), ret, ret, wrong, pop, ret), 6, api.ErrHeight},
		// The example of the chapter, and the same with the other way first.
		{list(bit, jumpNo(3), bit, ret), 2, api.ErrHeight},
		{list(bit, jumpNo(5), jump(3), bit, jump(7), bit, bit, ret), 6, api.ErrHeight},
		{list(bit, jumpNo(4), bit, jump(6), bit, bit, pop, ret), 5, api.ErrHeight},
		// Two go to the same pc with types of their own: told at the one that comes later.
		{list(bit, jumpNo(4), load(tP), jump(5), load(tI), pop, ret), 4, api.ErrHeight},
		{list(jump(4), load(tP), jump(6), ret, bit, jumpNo(1), pop, ret), 2, api.ErrHeight},
		{list(jump(4), load(tP), jump(7), ret, bit, jumpNo(1), load(tI), pop, ret), 6, api.ErrHeight},
		// A loop that leaves a word each time, and one that takes one.
		{list(bit, jump(0), ret), 1, api.ErrHeight},
		{list(bit, bit, pop, jump(1), ret), 0, api.OK},
		{list(bit, pop, jump(1)), 2, api.ErrHeight},
		{list(jump(0)), 0, api.OK},
		{list(bit, jumpNo(2), ret), 0, api.OK},
		{list(bit, jumpNo(0), ret), 0, api.OK},
	} {
		wantMain(t, c.l, c.pc, c.e, "9.2")
	}
}

// TestSameTypes (9.2): where two ways meet, the words are of the same types, and as many.
func TestSameTypes(t *testing.T) {
	for i, a := range names {
		for j, b := range names {
			l := list(in(code.Bit), in(code.JumpNo, 5), in(code.Load, i), in(code.Load, i), in(code.Jump, 7), in(code.Load, i), in(code.Load, j), in(code.Pop), in(code.Pop), ret)
			pc, e := 6, api.ErrHeight
			if i == j {
				pc, e = 0, api.OK
			}
			wantMain(t, l, pc, e, "9.2: "+a+" meets "+b)
			l[5], l[6] = l[6], l[5]
			wantMain(t, l, pc, e, "9.2: "+a+" meets "+b+" below")
		}
	}
}

// TestNotReached (9.2): the walk asks nothing of what it does not come to.
func TestNotReached(t *testing.T) {
	for _, l := range [][]api.Instr{
		list(in(code.Jump, 3), in(code.Add), in(code.Ret, 1), ret),
		list(ret, in(code.Pop), in(code.Jump, 1)),
		list(ret, in(code.Num), in(code.Jump, 1)),
		list(in(code.Jump, 2), in(code.Jump, 0), in(code.Jump, 0), in(code.Not), ret),
		list(in(code.Jump), in(code.Cast, tP), in(code.Invoke, 0, 8), in(code.Ret, 1)),
	} {
		wantMain(t, l, 0, api.OK, "9.2: not reached")
	}
}
