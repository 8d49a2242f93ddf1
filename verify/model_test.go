package verify_test

import (
	"fmt"
	"slices"
	"strings"
	"testing"

	"turnstone/api"
	"turnstone/code"
	"turnstone/kinds"
	"turnstone/verify"
)

// stir is a source of numbers that is the same in every run.
type stir uint64

func (s *stir) below(n int) int {
	*s = *s*6364136223846793005 + 1442695040888963407
	return int(uint64(*s) >> 33 % uint64(n))
}

// plain writes the ops whose words are of fixed types as what they take and push: i an int, b a bool, s a text.
var plain = map[int]string{
	code.Num: ">i", code.Input: ">i", code.Bit: ">b", code.Lit: ">s",
	code.Add: "ii>i", code.Sub: "ii>i", code.Mul: "ii>i", code.Div: "ii>i", code.Rem: "ii>i", code.Neg: "i>i",
	code.Lt: "ii>b", code.Le: "ii>b", code.Gt: "ii>b", code.Ge: "ii>b", code.Not: "b>b", code.JumpNo: "b>", code.Jump: ">",
	code.Cat: "ss>s", code.TextEq: "ss>b", code.TextNe: "ss>b", code.TextLt: "ss>b", code.TextLe: "ss>b", code.TextAt: "si>i",
}

// modelStep says in another way what an instruction makes of the types on the stack.
func modelStep(p api.Prog, f api.Func, x api.Instr, l []int) ([]int, api.Errno) {
	var takes []func(of int) bool
	var gives []int
	exactly := func(t int) func(int) bool { return func(of int) bool { return of == t } }
	fitting := func(t int) func(int) bool { return func(of int) bool { return kinds.Fits(p.Types, of, t) } }
	kind := func(k int) func(int) bool { return func(of int) bool { return p.Types[of].Kind == k } }
	fails := func(int) bool { return false }
	top := func(below int) int { // the type of a word below the top, or Void
		if below >= len(l) {
			return api.Void
		}
		return l[len(l)-1-below]
	}
	give := func(t int) {
		if t != api.Void {
			gives = append(gives, t)
		}
	}
	field := func(t int) int {
		if p.Types[t].Kind != api.Struct || x.A >= len(p.Types[t].Fields) {
			return api.Void
		}
		return p.Types[t].Fields[x.A].Type
	}
	letters := map[byte]int{'i': api.Int, 'b': api.Bool, 's': api.Text}
	takesText, givesText, isPlain := strings.Cut(plain[x.Op], ">")
	switch {
	case isPlain:
		for i := range len(takesText) {
			takes = append(takes, exactly(letters[takesText[i]]))
		}
		for i := range len(givesText) {
			give(letters[givesText[i]])
		}
	case x.Op == code.Null || x.Op == code.New:
		give(x.A)
	case x.Op == code.Load:
		give(f.Locals[x.A])
	case x.Op == code.Store:
		takes = append(takes, fitting(f.Locals[x.A]))
	case x.Op == code.Pop:
		takes = append(takes, func(int) bool { return true })
	case x.Op == code.Print:
		takes = append(takes, exactly(x.A))
	case x.Op == code.Make:
		takes = append(takes, exactly(api.Int))
		give(x.A)
	case x.Op == code.Cast:
		takes = append(takes, func(of int) bool { return kinds.Has(p.Types, x.A, of) })
		give(x.A)
	case x.Op == code.Len:
		takes = append(takes, func(of int) bool { return of == api.Text || p.Types[of].Kind == api.Slice })
		give(api.Int)
	case x.Op == code.Eq || x.Op == code.Ne:
		b := top(0)
		takes = append(takes, func(a int) bool {
			return a == b && a != api.Text || a != b && (kinds.Has(p.Types, a, b) || kinds.Has(p.Types, b, a))
		}, exactly(b))
		give(api.Bool)
	case x.Op == code.Field:
		takes = append(takes, func(of int) bool { return field(of) != api.Void })
		give(field(top(0)))
	case x.Op == code.SetField:
		of := field(top(1))
		takes = append(takes, func(int) bool { return of != api.Void }, fitting(of))
	case x.Op == code.At:
		takes = append(takes, kind(api.Slice), exactly(api.Int))
		give(p.Types[top(1)].Elem)
	case x.Op == code.SetAt:
		takes = append(takes, kind(api.Slice), exactly(api.Int), fitting(p.Types[top(2)].Elem))
	case x.Op == code.Call:
		for _, of := range p.Funcs[x.A].Params {
			takes = append(takes, fitting(of))
		}
		give(p.Funcs[x.A].Result)
	case x.Op == code.Invoke:
		takes = append(takes, times(x.B, fails)...)
		face := top(x.B - 1)
		if i, ok := kinds.Method(p.Types, face, p.Texts[x.A]); ok && len(p.Types[face].Methods[i].Params) == x.B-1 {
			takes[0] = kind(api.Face)
			for j, of := range p.Types[face].Methods[i].Params {
				takes[j+1] = fitting(of)
			}
			give(p.Types[face].Methods[i].Result)
		}
	case x.Op == code.Ret && x.A == 0 && f.Result != api.Void:
		return nil, api.ErrType
	case x.Op == code.Ret && x.A == 1 && f.Result == api.Void:
		takes = append(takes, fails)
	case x.Op == code.Ret && x.A == 1:
		takes = append(takes, fitting(f.Result))
	}
	if len(takes) > len(l) {
		return nil, api.ErrHeight
	}
	rest := len(l) - len(takes)
	for i, ok := range takes {
		if !ok(l[rest+i]) {
			return nil, api.ErrType
		}
	}
	if x.Op == code.Ret && rest > 0 || rest+len(gives) > api.MaxStack {
		return nil, api.ErrHeight
	}
	return slices.Concat(l[:rest], gives), api.OK
}

// modelWalk looks for the least pc that is known and not done again each time.
func modelWalk(p api.Prog, f api.Func) (map[int][]int, int, api.Errno) {
	known, done := map[int][]int{0: {}}, map[int]bool{}
	for {
		pc := len(f.Code)
		for next := range known {
			if !done[next] {
				pc = min(pc, next)
			}
		}
		if pc == len(f.Code) {
			return known, 0, api.OK
		}
		done[pc] = true
		after, e := modelStep(p, f, f.Code[pc], known[pc])
		if e != api.OK {
			return nil, pc, e
		}
		for _, next := range code.Targets(f.Code[pc], pc) {
			if before, ok := known[next]; ok && !slices.Equal(before, after) {
				return nil, pc, api.ErrHeight
			}
			known[next] = after
		}
	}
}

// wantWalk compares Verify, Heights and Types of a main with the model, and returns whether it is accepted.
func wantWalk(t *testing.T, p api.Prog) bool {
	t.Helper()
	known, pc, e := modelWalk(p, p.Funcs[fMain])
	what := "9.2:\n" + code.Show(p.Funcs[fMain])
	wantVerify(t, p, verify.Where{PC: pc}, e, what)
	heights, ok := verify.Heights(p, fMain)
	if ok != (e == api.OK) {
		t.Errorf("%s Heights answers %v", what, ok)
	}
	for at := range heights {
		l, reached := known[at]
		got, told := verify.Types(p, fMain, at)
		if reached != told || !slices.Equal(got, l) {
			t.Errorf("%s %d: types %v %v, not %v %v", what, at, got, told, l, reached)
		}
		want := -1
		if reached {
			want = len(l)
		}
		if heights[at] != want {
			t.Errorf("%s %d: height %d", what, at, heights[at])
		}
	}
	return e == api.OK
}

// anyInstr makes an instruction without a fault of its own, of any types.
func (s *stir) anyInstr(length int) api.Instr {
	op := code.Num + s.below(code.Ret)
	valids, _ := valid(op, length)
	x := in(op)
	if len(valids) > 0 {
		x.A = valids[s.below(len(valids))]
	}
	if bs := validB(op, x.A); len(bs) > 0 {
		x.B = bs[s.below(min(len(bs), 4))]
	}
	return x
}

// TestAnyCode (9.2): short code of any instructions, which is mostly refused, beside the model.
func TestAnyCode(t *testing.T) {
	s := stir(9)
	told := map[string]int{}
	for range 60000 {
		n := 2 + s.below(6)
		var l []api.Instr
		for range n {
			switch x := s.anyInstr(n + 1); s.below(3) {
			case 0:
				l = append(l, x)
			case 1:
				l = append(l, in(code.Load, s.below(len(values))))
			default:
				l = append(l, s.small(n+1))
			}
		}
		p := world(append(l, ret)...)
		wantWalk(t, p)
		_, e := verify.Verify(p)
		told[fmt.Sprint(e)]++
	}
	for _, e := range []api.Errno{api.OK, api.ErrHeight, api.ErrType} {
		if told[fmt.Sprint(e)] < 1000 {
			t.Errorf("9.2: the made code is not various: %v", told)
		}
	}
}

// small makes one of the instructions with which code goes hither and thither.
func (s *stir) small(length int) api.Instr {
	l := list(in(code.Bit), in(code.Bit), in(code.Pop), in(code.Jump, s.below(length)), in(code.JumpNo, s.below(length)), in(code.JumpNo, s.below(length)), ret, in(code.Not))
	return l[s.below(len(l))]
}

// TestAlmostRight (9.2): made code that is accepted, with an instruction or two in another's place, beside the model.
func TestAlmostRight(t *testing.T) {
	s := stir(10)
	accepted := 0
	for range 6000 {
		l := newMain(&s, 10+s.below(40)).l
		for range 1 + s.below(2) {
			at := s.below(len(l) - 1)
			switch s.below(3) {
			case 0:
				l[at] = s.anyInstr(len(l))
			case 1:
				l[at] = l[s.below(len(l))]
			default:
				other := s.below(len(l) - 1)
				l[at], l[other] = l[other], l[at]
			}
		}
		if wantWalk(t, world(l...)) {
			accepted++
		}
	}
	if accepted < 300 {
		t.Errorf("9.2: only %d are accepted", accepted)
	}
}
