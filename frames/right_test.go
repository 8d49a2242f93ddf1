package frames_test

import (
	"math"
	"reflect"
	"testing"

	"turnstone/api"
	"turnstone/code"
	"turnstone/frames"
)

// far are numbers that are no index of anything.
var far = []int{math.MinInt, math.MinInt + 1, -1 << 32, -2, -1, 1 << 31, 1 << 32, 1<<32 + 2, math.MaxInt - 1, math.MaxInt}

// TestExamples: those of the chapter.
func TestExamples(t *testing.T) {
	p := sample()
	wantRight(t, p, true, "Right of First(p)", frames.First(p)...)
	p.Main = fNone
	wantFrame(t, frames.Enter(p, p.Main, nil), fNone)
	wantRight(t, p, true, "Right of First(p)", frames.First(p)...)
}

// TestRightNumbers (11.2): no frame, one, MaxFrames, and one more.
func TestRightNumbers(t *testing.T) {
	p := sample()
	wantRight(t, p, false, "no frame")
	if frames.Right(p, nil) || frames.Right(p, []api.Frame{}) {
		t.Error("11.2: no frame")
	}
	for n := range 2*api.MaxFrames + 2 {
		wantRight(t, p, n < api.MaxFrames, "frames", under(n)...)
	}
	wantRight(t, p, false, "a thousand frames", under(999)...)
}

// TestRightFunc (11.2): a function's number below 0, behind the last one, and one that is another's.
func TestRightFunc(t *testing.T) {
	p := sample()
	for _, f := range append([]int{fN, fN + 1}, far...) {
		wantRight(t, p, false, "last, function", frame(f, 0, 0, 0))
		wantRight(t, p, false, "calling, function", frame(f, 0, 0, 0), last())
		l := under(4)
		for i := range l {
			of := l[i].Func
			l[i].Func = f
			wantRight(t, p, false, "one of many, function", l...)
			l[i].Func = of
		}
	}
	for f := range fN {
		n := len(p.Funcs[f].Locals)
		wantRight(t, p, true, "the function's locals", frame(f, 0, n, 0))
		for other := range fN {
			wantRight(t, p, len(p.Funcs[other].Locals) == n, "another function's locals", frame(other, 0, n, 0))
		}
	}
}

// TestRightPC (11.2): a pc below 0, behind the last one, and one that is never come to.
func TestRightPC(t *testing.T) {
	p := sample()
	n := len(p.Funcs[fMain].Code)
	for _, pc := range append([]int{n, n + 1, api.MaxCode, atNever}, far...) {
		for height := range 7 {
			wantRight(t, p, false, "last, pc", frame(fMain, pc, 2, height))
			wantRight(t, p, false, "calling, pc", frame(fMain, pc, 2, height), last())
			wantRight(t, p, false, "between, pc", caller(), frame(fMain, pc, 2, height), last())
		}
	}
	wantRight(t, p, true, "the last pc", frame(fMain, mainEnds, 2, 0))
	p.Funcs[fMain].Code[16].A = atNever
	wantRight(t, p, true, "come to", frame(fMain, atNever, 2, 0))
	wantRight(t, p, true, "come to, calling", frame(fMain, atNever, 2, 0), last())
}

// TestRightLocals (11.2): one too few and too many, for the last frame and for one that calls.
func TestRightLocals(t *testing.T) {
	p := sample()
	for n := range api.MaxLocals + 3 {
		wantRight(t, p, n == 3, "last", frame(fSum, 2, n, 2))
		wantRight(t, p, n == 2, "calling", frame(fMain, atSum, n, 1), last())
		wantRight(t, p, n == 0, "none", frame(fNone, 0, n, 0))
		wantRight(t, p, n == 5, "beside a receiver", frame(fM, 0, n, 0))
		wantRight(t, p, n == 5, "beside a receiver, calling", caller(), frame(fM, 2, n, 0), last())
		wantRight(t, p, n == api.MaxLocals, "most", frame(fMost, 0, n, 0))
		wantRight(t, p, n == api.MaxLocals, "most, calling", frame(fMost, 0, n, 0), last())
	}
}

// TestRightLast (11.2): the stack of the last frame at each pc, among them those of a Call and an Invoke, the arguments of which it still has.
func TestRightLast(t *testing.T) {
	p := sample()
	heights := []int{0, 1, 2, 3, 2, 3, 4, 5, 3, 3, 2, 1, 2, 2, 0, 1, 0, -1, 0}
	for pc, height := range heights {
		for n := range 8 {
			x := frame(fMain, pc, 2, n)
			wantRight(t, p, n == height, "alone", x)
			wantRight(t, p, n == height, "above others", caller(), frame(fM, 2, 5, 0), x)
		}
	}
	for n := range api.MaxStack + 3 {
		wantRight(t, p, n == 5, "at the Invoke", frame(fMain, atM, 2, n))
	}
}

// TestRightCalling (11.2): a frame below the last one is at a Call or an Invoke, without the arguments, and nowhere else.
func TestRightCalling(t *testing.T) {
	p := sample()
	remain := map[int]int{atSum: 1, atM: 2, atNone: 3, atAll: 0}
	for pc := range p.Funcs[fMain].Code {
		height, calls := remain[pc]
		for n := range 8 {
			x := frame(fMain, pc, 2, n)
			wantRight(t, p, calls && n == height, "the first of two", x, last())
			wantRight(t, p, calls && n == height, "the first of three", x, caller(), last())
			wantRight(t, p, calls && n == height, "the second of three", caller(), x, last())
			wantRight(t, p, calls && n == height, "below one that begins", x, frame(fNone, 0, 0, 0))
		}
	}
}

// TestRightCallingExamples (11.2): frames at, ahead of and behind a Call and an Invoke, written out.
func TestRightCallingExamples(t *testing.T) {
	p := sample()
	wantRight(t, p, true, "at the Call, without the arguments", frame(fMain, atSum, 2, 1), last())
	wantRight(t, p, false, "at the Call, with the arguments", frame(fMain, atSum, 2, 3), last())
	wantRight(t, p, false, "at the Call, with one of them", frame(fMain, atSum, 2, 2), last())
	wantRight(t, p, false, "at the Call, with a word too few", frame(fMain, atSum, 2, 0), last())
	wantRight(t, p, false, "behind the Call, with the result", frame(fMain, atSum+1, 2, 2), last())
	wantRight(t, p, false, "behind the Call, without the result", frame(fMain, atSum+1, 2, 1), last())
	wantRight(t, p, false, "ahead of the Call", frame(fMain, atSum-1, 2, 2), last())
	wantRight(t, p, true, "at the Invoke, without the arguments", frame(fMain, atM, 2, 2), last())
	wantRight(t, p, false, "at the Invoke, with the receiver", frame(fMain, atM, 2, 3), last())
	wantRight(t, p, false, "at the Invoke, with the arguments", frame(fMain, atM, 2, 5), last())
	wantRight(t, p, false, "at the Invoke, with a word too few", frame(fMain, atM, 2, 1), last())
	wantRight(t, p, true, "behind the Invoke, at the next Call", frame(fMain, atNone, 2, 3), last())
	wantRight(t, p, true, "at a Call without arguments", frame(fMain, atNone, 2, 3), last())
	wantRight(t, p, false, "behind a Call without arguments", frame(fMain, atNone+1, 2, 3), last())
	wantRight(t, p, true, "at a Call that takes all", frame(fMain, atAll, 2, 0), last())
	wantRight(t, p, false, "at a Call that takes all, with them", frame(fMain, atAll, 2, 2), last())
	wantRight(t, p, false, "at a Ret", frame(fMain, mainEnds, 2, 0), last())
	wantRight(t, p, false, "at pc 0", frame(fMain, 0, 2, 0), last())
}

// TestRightAboveIsAny (11.2): what is called need not be what stands above, and the words may be any.
func TestRightAboveIsAny(t *testing.T) {
	p := sample()
	for f := range fN {
		wantRight(t, p, true, "the Call of another function", caller(), frame(f, 0, len(p.Funcs[f].Locals), 0))
	}
	l := under(3)
	spoilWords := func(w uint64) {
		for i := range l {
			fill(l[i].Locals, w)
			fill(l[i].Stack, w)
		}
	}
	for _, w := range []uint64{0, 1, 1 << 32, 1 << 63, math.MaxUint64} {
		spoilWords(w)
		wantRight(t, p, true, "any words", l...)
	}
}

// TestRightEach (11.2): one wrong frame, wherever it stands among many, makes the list a wrong one.
func TestRightEach(t *testing.T) {
	p := sample()
	wrong := map[string]func(x *api.Frame){
		"no such function":  func(x *api.Frame) { x.Func = fN },
		"function below 0":  func(x *api.Frame) { x.Func = -1 },
		"no such pc":        func(x *api.Frame) { x.PC = 19 },
		"pc below 0":        func(x *api.Frame) { x.PC = -1 },
		"a local too few":   func(x *api.Frame) { x.Locals = x.Locals[1:] },
		"a local too many":  func(x *api.Frame) { x.Locals = append(x.Locals, 0) },
		"a word too few":    func(x *api.Frame) { x.Stack = x.Stack[1:] },
		"a word too many":   func(x *api.Frame) { x.Stack = append(x.Stack, 0) },
		"the zero frame":    func(x *api.Frame) { *x = api.Frame{} },
		"a frame that ends": func(x *api.Frame) { x.PC = len(p.Funcs[x.Func].Code) - 1 },
	}
	for name, turn := range wrong {
		for i := range api.MaxFrames {
			l := under(api.MaxFrames - 1)
			turn(&l[i])
			wantRight(t, p, false, name, l...)
		}
	}
}

// TestRightChangesNothing (R2, R4): neither the program nor the list, and the answer stays the same.
func TestRightChangesNothing(t *testing.T) {
	p, l := sample(), under(2)
	for range 3 {
		wantRight(t, p, true, "again", l...)
		wantRight(t, p, false, "again", l[:2]...)
	}
	if !reflect.DeepEqual(p, sample()) || !reflect.DeepEqual(l, under(2)) {
		t.Error("R2: an argument was changed")
	}
}

// TestRightOfAnother (R4, R7): a program is asked anew each time: the same list is right for one and wrong for another.
func TestRightOfAnother(t *testing.T) {
	p, l := sample(), under(1)
	wantRight(t, p, true, "the program", l...)
	p.Funcs[fMain].Locals = append(p.Funcs[fMain].Locals, api.Int)
	wantRight(t, p, false, "with a local more", l...)
	p = sample()
	p.Funcs[fSum].Code = []api.Instr{in(code.Num), in(code.Jump, 3), in(code.Pop), in(code.Ret, 1)}
	wantRight(t, p, false, "with another code", l...)
	l[1] = frame(fSum, 3, 3, 1)
	wantRight(t, p, true, "with another code", l...)
}

// TestRightOfRefused (R1): in a program that is not accepted no frame is right, and nothing panics.
func TestRightOfRefused(t *testing.T) {
	for i, turn := range []func(p *api.Prog){
		func(p *api.Prog) { *p = api.Prog{} },
		func(p *api.Prog) { p.Types = nil },
		func(p *api.Prog) { p.Main = -1 },
		func(p *api.Prog) { p.Main = fN },
		func(p *api.Prog) { p.Texts = nil },
		func(p *api.Prog) { p.Nums = nil },
		func(p *api.Prog) { p.Funcs = p.Funcs[:fMain+1] },
		func(p *api.Prog) { p.Funcs[fSum].Code = nil },
		func(p *api.Prog) { p.Funcs[fSum].Code[2].Op = 0 },
		func(p *api.Prog) { p.Funcs[fMost].Code[0].A = math.MaxInt },
		func(p *api.Prog) { p.Funcs[fMain].Code[atSum].B = math.MaxInt },
		func(p *api.Prog) { p.Funcs[fMain].Code[atSum].B = -1 },
		func(p *api.Prog) { p.Funcs[fMain].Code[atM].B = math.MinInt },
		func(p *api.Prog) { p.Funcs[fMain].Code[0].Op = code.Add },
		func(p *api.Prog) { p.Funcs[fMain].Code = p.Funcs[fMain].Code[:mainEnds] },
	} {
		p := sample()
		turn(&p)
		for _, l := range [][]api.Frame{nil, {{}}, under(0), under(1), under(29), under(30), {frame(fMain, atM, 2, 2), last()}, frames.First(p)} {
			if frames.Right(p, l) {
				t.Errorf("11.2: refused program %d: %v", i, l)
			}
		}
	}
}
