package frames_test

import (
	"math"
	"reflect"
	"slices"
	"testing"

	"turnstone/api"
	"turnstone/frames"
)

// The calls, as the chapter has them.
var (
	_ func(api.Prog) []api.Frame                = frames.First
	_ func(api.Prog, int, []uint64) api.Frame   = frames.Enter
	_ func(a, b []api.Frame) bool               = frames.Same
	_ func([]api.Frame) []api.Frame             = frames.Copy
	_ func(p api.Prog, l []api.Frame) (ok bool) = frames.Right
)

// wantFrame compares a frame that must stand at pc 0 with an empty stack.
func wantFrame(t *testing.T, x api.Frame, f int, locals ...uint64) {
	t.Helper()
	if x.Func != f || x.PC != 0 || !slices.Equal(x.Locals, locals) || len(x.Stack) != 0 {
		t.Errorf("11.1: %+v, not a frame of %d with %v", x, f, locals)
	}
}

// TestEnter (11.1): with as many arguments as locals, with fewer, with more, and without any.
func TestEnter(t *testing.T) {
	p := sample()
	for _, c := range []struct {
		f          int
		args, want []uint64
	}{
		{fSum, nil, []uint64{0, 0, 0}},
		{fSum, []uint64{}, []uint64{0, 0, 0}},
		{fSum, []uint64{7}, []uint64{7, 0, 0}},
		{fSum, []uint64{7, 8}, []uint64{7, 8, 0}},
		{fSum, []uint64{7, 8, 9}, []uint64{7, 8, 9}},
		{fSum, []uint64{7, 8, 9, 10}, []uint64{7, 8, 9}},
		{fSum, []uint64{0, math.MaxUint64, 1 << 63, 5, 6, 7, 8}, []uint64{0, math.MaxUint64, 1 << 63}},
		{fNone, nil, nil},
		{fNone, []uint64{1}, nil},
		{fNone, words(50), nil},
		{fMain, nil, []uint64{0, 0}},
		{fMain, []uint64{4, 5, 6}, []uint64{4, 5}},
		{fM, []uint64{1, 2, 3}, []uint64{1, 2, 3, 0, 0}},
		{fAll, []uint64{1, 2}, []uint64{1, 2}},
		{fMost, nil, make([]uint64, api.MaxLocals)},
		{fMost, words(api.MaxLocals - 1), append(words(api.MaxLocals-1), 0)},
		{fMost, words(api.MaxLocals), words(api.MaxLocals)},
		{fMost, words(api.MaxLocals + 1), words(api.MaxLocals)},
	} {
		wantFrame(t, frames.Enter(p, c.f, c.args), c.f, c.want...)
	}
}

// TestEnterNothing (11.1, R1, R5): a function that does not exist.
func TestEnterNothing(t *testing.T) {
	for _, f := range []int{math.MinInt, -2, -1, fN, fN + 1, 1 << 32, math.MaxInt} {
		if x := frames.Enter(sample(), f, []uint64{1, 2}); !reflect.DeepEqual(x, api.Frame{}) {
			t.Errorf("R5: Enter of %d is %+v", f, x)
		}
	}
	if x := frames.Enter(api.Prog{}, 0, []uint64{1, 2}); !reflect.DeepEqual(x, api.Frame{}) {
		t.Errorf("R5: Enter of nothing is %+v", x)
	}
}

// fill writes over a list up to its capacity.
func fill[E any](l []E, with E) {
	l = l[:cap(l)]
	for i := range l {
		l[i] = with
	}
}

// TestEnterIsNew (11.1, R2): neither the frame nor the arguments turn when the other one is written to.
func TestEnterIsNew(t *testing.T) {
	p := sample()
	for n := range 6 {
		args := words(n)
		x := frames.Enter(p, fSum, args)
		y := frames.Enter(p, fSum, args)
		want := append(words(n), 0, 0, 0)[:3]
		fill(x.Locals, 55)
		fill(x.Stack, 66)
		x.Stack = append(x.Stack, 77)
		if !slices.Equal(args[:cap(args)], append(words(n), 0, 0, 0, 0)) {
			t.Errorf("R2: %d arguments became %v", n, args[:cap(args)])
		}
		wantFrame(t, y, fSum, want...)
		fill(args, 99)
		wantFrame(t, y, fSum, want...)
		if !slices.Equal(x.Locals, []uint64{55, 55, 55}) {
			t.Errorf("R2: a frame became %v", x.Locals)
		}
	}
	if !reflect.DeepEqual(p, sample()) {
		t.Error("R2: the program was changed")
	}
}

// TestFirst (11.1): of each function that may be the Main, which is the first one, the last one, or between.
func TestFirst(t *testing.T) {
	for _, c := range []struct{ main, locals int }{{fMain, 2}, {fNone, 0}, {fMost, api.MaxLocals}} {
		p := sample()
		p.Main = c.main
		l := frames.First(p)
		if len(l) != 1 {
			t.Fatalf("11.1: %d frames", len(l))
		}
		wantFrame(t, l[0], c.main, make([]uint64, c.locals)...)
		wantRight(t, p, true, "First", l...)
	}
	p := sample()
	p.Types, p.Funcs, p.Main = p.Types[:tP], p.Funcs[fNone:fMain], 0
	wantFrame(t, frames.First(p)[0], 0)
	wantRight(t, p, true, "First of the first function", frames.First(p)...)
	p = sample()
	p.Types, p.Funcs, p.Main = p.Types[:tP], p.Funcs[fMost:], 0
	p.Funcs[0].Code[0].A = 0
	wantFrame(t, frames.First(p)[0], 0, make([]uint64, api.MaxLocals)...)
	wantRight(t, p, true, "First of the first function", frames.First(p)...)
}

// TestFirstIsNew (11.1, R2, R4): what is done with an answer is not seen in the next one.
func TestFirstIsNew(t *testing.T) {
	p := sample()
	for range 3 {
		l := frames.First(p)
		wantFrame(t, l[0], fMain, 0, 0)
		fill(l[0].Locals, 5)
		fill(l, last())
	}
	if !reflect.DeepEqual(p, sample()) {
		t.Error("R2: the program was changed")
	}
}

// TestFirstOfNoMain (R1): a program without its Main is never accepted, and First ends all the same.
func TestFirstOfNoMain(t *testing.T) {
	for _, main := range []int{math.MinInt, -1, fN, math.MaxInt} {
		p := sample()
		p.Main = main
		wantRight(t, p, false, "no Main", frames.First(p)...)
	}
	frames.First(api.Prog{})
}

// wantSame compares the answer of Same, in both orders.
func wantSame(t *testing.T, a, b []api.Frame, want bool, what string) {
	t.Helper()
	if frames.Same(a, b) != want || frames.Same(b, a) != want {
		t.Errorf("11.1: Same, %s: not %v: %v, %v", what, want, a, b)
	}
}

// turns are ways to make a list of two frames, each of 3 locals and 2 words, another one.
func turns() map[string]func(l []api.Frame) []api.Frame {
	all := map[string]func(l []api.Frame) []api.Frame{
		"no frame":      func(l []api.Frame) []api.Frame { return nil },
		"without first": func(l []api.Frame) []api.Frame { return l[1:] },
		"without last":  func(l []api.Frame) []api.Frame { return l[:1] },
		"another frame": func(l []api.Frame) []api.Frame { return append(l, api.Frame{}) },
		"the last twice": func(l []api.Frame) []api.Frame {
			return append(l, l[1])
		},
		"another order": func(l []api.Frame) []api.Frame { return []api.Frame{l[1], l[0]} },
	}
	for name, turn := range frameTurns() {
		for i := range 2 {
			all[name+" of "+string(rune('0'+i))] = func(l []api.Frame) []api.Frame {
				turn(&l[i])
				return l
			}
		}
	}
	return all
}

// frameTurns are ways to make a frame of 3 locals and 2 words another one.
func frameTurns() map[string]func(x *api.Frame) {
	return map[string]func(x *api.Frame){
		"function above":   func(x *api.Frame) { x.Func++ },
		"function below":   func(x *api.Frame) { x.Func-- },
		"function far":     func(x *api.Frame) { x.Func += 1 << 32 },
		"pc above":         func(x *api.Frame) { x.PC++ },
		"pc below":         func(x *api.Frame) { x.PC-- },
		"pc far":           func(x *api.Frame) { x.PC += 1 << 32 },
		"function and pc":  func(x *api.Frame) { x.Func, x.PC = x.Func+1, x.PC-1 },
		"first local":      func(x *api.Frame) { x.Locals[0]++ },
		"last local":       func(x *api.Frame) { x.Locals[2] ^= 1 << 63 },
		"order of locals":  func(x *api.Frame) { slices.Reverse(x.Locals) },
		"no locals":        func(x *api.Frame) { x.Locals = nil },
		"a local less":     func(x *api.Frame) { x.Locals = x.Locals[:2] },
		"a local more":     func(x *api.Frame) { x.Locals = append(x.Locals, 0) },
		"first of stack":   func(x *api.Frame) { x.Stack[0]++ },
		"last of stack":    func(x *api.Frame) { x.Stack[1] ^= 1 << 63 },
		"order of stack":   func(x *api.Frame) { slices.Reverse(x.Stack) },
		"no stack":         func(x *api.Frame) { x.Stack = nil },
		"a word less":      func(x *api.Frame) { x.Stack = x.Stack[:1] },
		"a word more":      func(x *api.Frame) { x.Stack = append(x.Stack, 0) },
		"local to stack":   func(x *api.Frame) { x.Locals, x.Stack = x.Locals[:2], append(x.Stack, x.Locals[2]) },
		"locals and stack": func(x *api.Frame) { x.Locals, x.Stack = x.Stack, x.Locals },
		"zero frame":       func(x *api.Frame) { *x = api.Frame{} },
	}
}

// two are two frames that differ in all; nothing says that they are those of a program.
func two() []api.Frame {
	return []api.Frame{frame(4, 9, 3, 2), {Func: 6, PC: 2, Locals: []uint64{11, 12, 13}, Stack: []uint64{14, 15}}}
}

// TestSame (11.1): each difference that two lists may have, and lists that have none.
func TestSame(t *testing.T) {
	for name, turn := range turns() {
		wantSame(t, two(), turn(two()), false, name)
		wantSame(t, turn(two()), turn(two()), true, name)
		l := turn(two())
		wantSame(t, l, l, true, name+", itself")
	}
	wantSame(t, two(), two(), true, "equal ones")
	l := two()
	wantSame(t, l, l, true, "itself")
	wantSame(t, l[:1], l[1:], false, "parts of one list")
}

// TestSameEmpty (11.1, R2): nothing and an empty list are equal; a list of no frame and one of an empty frame are not.
func TestSameEmpty(t *testing.T) {
	wantSame(t, nil, nil, true, "nil")
	wantSame(t, nil, []api.Frame{}, true, "nil and empty")
	wantSame(t, []api.Frame{}, []api.Frame{}, true, "empty")
	wantSame(t, nil, []api.Frame{{}}, false, "no frame and one")
	wantSame(t, []api.Frame{{}}, []api.Frame{{}, {}}, false, "one frame and two")
	wantSame(t, []api.Frame{{}}, []api.Frame{{Locals: []uint64{}, Stack: []uint64{}}}, true, "nil and empty words")
	wantSame(t, []api.Frame{{}}, []api.Frame{{Locals: []uint64{0}}}, false, "no local and a 0")
	wantSame(t, []api.Frame{{}}, []api.Frame{{Stack: []uint64{0}}}, false, "no word and a 0")
	wantSame(t, []api.Frame{{Locals: []uint64{0}}}, []api.Frame{{Stack: []uint64{0}}}, false, "a local and a word")
}

// TestSameOfAny (11.1, R1, R2): it asks no program, counts no frames, looks at nothing behind an end, and changes nothing.
func TestSameOfAny(t *testing.T) {
	a := []api.Frame{{Func: math.MinInt, PC: math.MaxInt}, {Func: -1, PC: -1}}
	wantSame(t, a, slices.Clone(a), true, "far numbers")
	wantSame(t, under(500), under(500), true, "more than MaxFrames")
	wantSame(t, under(500), under(501), false, "more than MaxFrames")
	x, y := two(), two()
	fill(y[0].Locals[3:], 8)
	fill(y[0].Stack[2:], 9)
	y = append(y, last())[:2]
	wantSame(t, x, y, true, "behind the ends")
	if !reflect.DeepEqual(x, two()) || !reflect.DeepEqual(y, two()) || y[0].Stack[:3][2] != 9 || y[:3][2].Func != fSum {
		t.Error("R2: an argument was changed")
	}
}

// lists are those that Copy is tried with; every call makes new ones.
func lists() [][]api.Frame {
	return [][]api.Frame{
		nil,
		{},
		{{}},
		{{Func: math.MinInt, PC: math.MaxInt, Locals: []uint64{}, Stack: []uint64{math.MaxUint64}}},
		{last()},
		two(),
		{frame(1, 2, 0, 3), frame(1, 2, 3, 0), frame(-1, -2, 0, 0)},
		under(api.MaxFrames - 1),
		under(2 * api.MaxFrames),
	}
}

// spoil writes over all that a list has, up to the capacities.
func spoil(l []api.Frame) {
	for i := range l {
		fill(l[i].Locals, 123)
		fill(l[i].Stack, 321)
	}
	fill(l, api.Frame{Func: 77, PC: 77, Locals: []uint64{77}, Stack: []uint64{77}})
}

// TestCopy (11.1): lists of no, one and many frames have copies that are the same, and neither turns the other from then on.
func TestCopy(t *testing.T) {
	for i, l := range lists() {
		first, second := frames.Copy(l), frames.Copy(l)
		wantSame(t, l, first, true, "a copy")
		if len(first) != len(l) {
			t.Errorf("11.1: %d frames, not %d", len(first), len(l))
		}
		spoil(first)
		wantSame(t, l, lists()[i], true, "the copy was written to")
		wantSame(t, l, second, true, "another copy was written to")
		spoil(l)
		wantSame(t, second, lists()[i], true, "the first list was written to")
	}
}

// TestCopyParts (11.1, R2): each part of a copy turned alone is seen in the copy and not in the list, and the other way round.
func TestCopyParts(t *testing.T) {
	for name, turn := range turns() {
		l := two()
		c := turn(frames.Copy(l))
		wantSame(t, l, two(), true, name+": the copy was turned")
		wantSame(t, l, c, false, name+": the copy was turned")
		c = frames.Copy(l)
		l = turn(l)
		wantSame(t, c, two(), true, name+": the list was turned")
		wantSame(t, l, c, false, name+": the list was turned")
	}
}

// TestCopyApart (R2): no two lists of a copy share memory, though those of what was copied do, and what stood behind their ends is not written to.
func TestCopyApart(t *testing.T) {
	shared := words(6)
	l := []api.Frame{{Locals: shared[:2], Stack: shared[2:4]}, {Locals: shared, Stack: shared}}
	c := frames.Copy(l)
	for i := range c {
		for _, part := range []*[]uint64{&c[i].Locals, &c[i].Stack} {
			kept := slices.Clone(*part)
			fill(*part, 99)
			_ = append(*part, 99)
			*part = kept
			wantSame(t, l, c, true, "a part was written to")
		}
	}
	if !slices.Equal(shared[:cap(shared)], append(words(6), 0, 0, 0, 0)) {
		t.Errorf("R2: %v", shared[:cap(shared)])
	}
}
