package interp_test

import (
	"math"
	"math/big"
	"slices"
	"strconv"
	"strings"
	"testing"

	"turnstone/api"
	"turnstone/code"
	"turnstone/interp"
)

// edges are numbers in ascending order, the least and the greatest among them.
var edges = []int64{math.MinInt64, math.MinInt64 + 1, -1 << 32, -7, -2, -1, 0, 1, 2, 3, 7, 255, 1 << 32, math.MaxInt64 - 1, math.MaxInt64}

// TestPushed (7.1): what takes nothing and pushes a word.
func TestPushed(t *testing.T) {
	p := sample(in(code.Ret))
	w := newWorld(t, p, 100)
	for i, n := range p.Nums {
		try{in: in(code.Num, i), gives: []uint64{uint64(n)}}.wantGives(t, w)
	}
	for i := range 2 {
		try{in: in(code.Bit, i), gives: []uint64{uint64(i)}}.wantGives(t, w)
	}
	for i, ref := range []uint64{1, 3, 0, 5} {
		try{in: in(code.Lit, i), gives: []uint64{ref}}.wantGives(t, w)
	}
	for _, kind := range []int{api.Text, tP, tPs, tI} {
		try{in: in(code.Null, kind), gives: []uint64{0}}.wantGives(t, w)
	}
	for i := range values {
		try{in: in(code.Load, i), gives: []uint64{uint64(1000 + i)}}.wantGives(t, w)
	}
}

// TestStore (7.1): only the local is set, and the word is gone. Pop takes a word and does nothing.
func TestStore(t *testing.T) {
	for i, kind := range values {
		c := try{in: in(code.Store, i), takes: []int{kind}, words: []uint64{77}}
		m, x := c.ahead(t, newWorld(t, sample(), 100), 0)
		m.Step()
		x.PC, x.Stack, x.Locals[i] = x.PC+1, x.Stack[:1], 77
		wantFrames(t, m, x)
		c = try{in: in(code.Pop), takes: []int{kind}, words: []uint64{77}}
		c.wantGives(t, newWorld(t, sample(), 100))
	}
}

// wrapped is a number as a word.
func wrapped(n *big.Int) uint64 {
	low := new(big.Int).And(n, new(big.Int).SetUint64(math.MaxUint64)) // of a negative number in two's complement
	return low.Uint64()
}

// TestArithmetic (7.1): of the edges, as whole numbers without bounds that are wrapped in the end.
func TestArithmetic(t *testing.T) {
	w := newWorld(t, sample(), 100)
	ops := map[int]func(z, x, y *big.Int) *big.Int{
		code.Add: (*big.Int).Add, code.Sub: (*big.Int).Sub, code.Mul: (*big.Int).Mul, code.Div: (*big.Int).Quo, code.Rem: (*big.Int).Rem,
	}
	for op, do := range ops {
		for _, a := range edges {
			for _, b := range edges {
				c := try{in: in(op), takes: ints(2), words: []uint64{uint64(a), uint64(b)}}
				if b == 0 && (op == code.Div || op == code.Rem) {
					c.wantTrap(t, w, api.Div)
					continue
				}
				c.gives = []uint64{wrapped(do(new(big.Int), big.NewInt(a), big.NewInt(b)))}
				c.wantGives(t, w)
			}
		}
	}
	for _, a := range edges {
		v := wrapped(new(big.Int).Neg(big.NewInt(a)))
		try{in: in(code.Neg), takes: ints(1), words: []uint64{uint64(a)}, gives: []uint64{v}}.wantGives(t, w)
	}
}

// TestDivision (7.1): the edges that the chapter names, written out.
func TestDivision(t *testing.T) {
	w := newWorld(t, sample(), 100)
	for _, c := range [][4]int64{
		{7, 2, 3, 1}, {-7, 2, -3, -1}, {7, -2, -3, 1}, {-7, -2, 3, -1}, {0, 5, 0, 0},
		{math.MinInt64, -1, math.MinInt64, 0}, {math.MinInt64, 1, math.MinInt64, 0}, {math.MaxInt64, -1, -math.MaxInt64, 0},
	} {
		words := []uint64{uint64(c[0]), uint64(c[1])}
		try{in: in(code.Div), takes: ints(2), words: words, gives: []uint64{uint64(c[2])}}.wantGives(t, w)
		try{in: in(code.Rem), takes: ints(2), words: words, gives: []uint64{uint64(c[3])}}.wantGives(t, w)
	}
}

func bit(is bool) []uint64 {
	if is {
		return []uint64{1}
	}
	return []uint64{0}
}

// TestComparisons (7.1): each of the edges with each, by their order.
func TestComparisons(t *testing.T) {
	w := newWorld(t, sample(), 100)
	for i, a := range edges {
		for j, b := range edges {
			for op, is := range map[int]bool{code.Eq: i == j, code.Ne: i != j, code.Lt: i < j, code.Le: i <= j, code.Gt: i > j, code.Ge: i >= j} {
				try{in: in(op), takes: ints(2), words: []uint64{uint64(a), uint64(b)}, gives: bit(is)}.wantGives(t, w)
			}
		}
	}
	// References are words too; they need not exist.
	try{in: in(code.Eq), takes: []int{tP, tP}, words: []uint64{5, 5}, gives: bit(true)}.wantGives(t, w)
	try{in: in(code.Ne), takes: []int{tI, tP}, words: []uint64{5, 1 << 63}, gives: bit(true)}.wantGives(t, w)
}

// TestNot (7.1): 1 of 0, and 0 of everything else, though it be no bool.
func TestNot(t *testing.T) {
	w := newWorld(t, sample(), 100)
	for _, a := range edges {
		try{in: in(code.Not), takes: []int{api.Bool}, words: []uint64{uint64(a)}, gives: bit(a == 0)}.wantGives(t, w)
	}
}

// TestTexts (7.1): texts by their bytes, whatever their references are.
func TestTexts(t *testing.T) {
	w := newWorld(t, sample(), 1000)
	l := []string{"", "", "a", "a", "ab", "b", "\x80", "\xff\x00", "\xff", "aa", "\x00", "é"}
	refs := make([]uint64, len(l))
	for i, s := range l {
		refs[i] = text(t, w.Heap(), s)
	}
	for i, a := range l {
		for j, b := range l {
			for op, is := range map[int]bool{code.TextEq: a == b, code.TextNe: a != b, code.TextLt: a < b, code.TextLe: a <= b} {
				try{in: in(op), takes: []int{api.Text, api.Text}, words: []uint64{refs[i], refs[j]}, gives: bit(is)}.wantGives(t, w)
			}
		}
	}
}

// TestCat (7.1): a new text of both; an empty one is the reference 0, and takes no room.
func TestCat(t *testing.T) {
	for _, c := range [][3]string{{"ab", "c", "abc"}, {"", "x", "x"}, {"x", "", "x"}, {"\xff", "\x00", "\xff\x00"}, {"", "", ""}} {
		w := newWorld(t, sample(), 100)
		a, b := text(t, w.Heap(), c[0]), text(t, w.Heap(), c[1])
		before := w.Heap().Words()
		ref := uint64(len(before))
		if c[2] == "" {
			ref = 0
		}
		try{in: in(code.Cat), takes: []int{api.Text, api.Text}, words: []uint64{a, b}, gives: []uint64{ref}}.wantGives(t, w)
		if w.Heap().String(ref) != c[2] || !slices.Equal(w.Heap().Words()[:len(before)], before) {
			t.Errorf("7.1: Cat of %q: %q", c, w.Heap().String(ref))
		}
	}
}

// TestCatMemory (7.1): a text for which there is just room, one that is a word too long, and one longer than MaxLen.
func TestCatMemory(t *testing.T) {
	for _, c := range []struct {
		left, a, b int
		trap       int
	}{
		{6, 3, 2, api.NoTrap}, {5, 3, 2, api.Memory}, {0, 3, 2, api.Memory}, {0, 0, 0, api.NoTrap}, {1, 0, 1, api.Memory},
		{3000, 1000, api.MaxLen - 1000, api.NoTrap}, {3000, 1000, api.MaxLen - 999, api.Memory}, {3000, api.MaxLen, 1, api.Memory},
	} {
		w := newWorld(t, sample(), 20000)
		h := w.Heap()
		x := try{in: in(code.Cat), takes: []int{api.Text, api.Text}, words: []uint64{text(t, h, strings.Repeat("a", c.a)), text(t, h, strings.Repeat("b", c.b))}}
		h.Alloc(0, 20000-c.left-1-h.Used())
		if c.trap != api.NoTrap {
			x.wantTrap(t, w, c.trap)
			continue
		}
		x.gives = []uint64{uint64(h.Used())}
		if c.a+c.b == 0 {
			x.gives = []uint64{0}
		}
		x.wantGives(t, w)
		if h.String(x.gives[0]) != strings.Repeat("a", c.a)+strings.Repeat("b", c.b) {
			t.Errorf("7.1: Cat of %d and %d bytes", c.a, c.b)
		}
	}
}

// TestJumps (7.1): Jump takes nothing; JumpNo takes a word, and jumps if it is 0. They may lead back, on, or to themselves.
func TestJumps(t *testing.T) {
	for _, to := range []int{0, 1, 2, 3, 4} {
		main := list(in(code.Jump, 1), in(code.Jump, to), in(code.Jump, 3), in(code.Jump, 4), in(code.Ret))
		m := started(t, sample(main...), 100)
		m.Step()
		x := m.Frames()[0]
		m.Step()
		x.PC = to
		wantFrames(t, m, x)
	}
	for _, to := range []int{0, 1, 2, 3} {
		for _, a := range []uint64{0, 1, 2, 1 << 32, 1 << 63} {
			main := list(load(api.Bool), in(code.JumpNo, 0), in(code.Jump, 3), in(code.Ret))
			main[1].A = to
			if to == 1 { // there the stack must be as high as it was
				main = list(load(api.Bool), in(code.JumpNo, 2), in(code.Jump, 3), in(code.Ret))
			}
			x := api.Frame{Func: fMain, PC: 1, Locals: make([]uint64, len(values)), Stack: []uint64{a}}
			p := sample(main...)
			m := going(t, p, newWorld(t, p, 100), x)
			m.Step()
			x.PC, x.Stack = 2, nil
			if a == 0 {
				x.PC = main[1].A
			}
			wantFrames(t, m, x)
		}
	}
}

// TestFields (7.1): a field is read and set, and only that one.
func TestFields(t *testing.T) {
	w := newWorld(t, sample(), 100)
	ref := put(t, w, tP, 11, 12)
	for i, v := range []uint64{11, 12} {
		try{in: in(code.Field, i), takes: []int{tP}, words: []uint64{ref}, gives: []uint64{v}}.wantGives(t, w)
	}
	try{in: in(code.SetField, 0), takes: []int{tP, api.Int}, words: []uint64{ref, 1 << 63}}.wantGives(t, w)
	try{in: in(code.SetField, 1), takes: []int{tP, tP}, words: []uint64{ref, ref}}.wantGives(t, w)
	if h := w.Heap(); h.Get(ref, 0) != 1<<63 || h.Get(ref, 1) != ref || h.Type(ref) != tP || h.Used() != int(ref)+3 {
		t.Errorf("7.1: %v", h.Words())
	}
	try{in: in(code.Field, 0), takes: []int{tP}, words: []uint64{0}}.wantTrap(t, w, api.Null)
	try{in: in(code.SetField, 0), takes: []int{tP, api.Int}, words: []uint64{0, 5}}.wantTrap(t, w, api.Null)
}

// indexes are such as are not below the length n of an object.
func indexes(n int64) []int64 {
	return []int64{math.MinInt64, -1 << 32, -n, -1, n, n + 1, 1 << 32, 1<<32 + n - 1, math.MaxInt64}
}

// TestElements (7.1): elements from the first to the last are read and set; an index beside them traps.
func TestElements(t *testing.T) {
	w := newWorld(t, sample(), 100)
	ref := put(t, w, tInts, 21, 22, 23)
	none := put(t, w, tInts)
	for i := range uint64(3) {
		try{in: in(code.At), takes: []int{tInts, api.Int}, words: []uint64{ref, i}, gives: []uint64{21 + i}}.wantGives(t, w)
		before := w.Heap().Words()
		try{in: in(code.SetAt), takes: []int{tInts, api.Int, api.Int}, words: []uint64{ref, i, 31 + i}}.wantGives(t, w)
		before[ref+1+i] = 31 + i
		if !slices.Equal(w.Heap().Words(), before) {
			t.Errorf("7.1: element %d was set: %v", i, w.Heap().Words())
		}
	}
	wantMiss := func(trap int, a, b uint64) {
		t.Helper()
		try{in: in(code.At), takes: []int{tInts, api.Int}, words: []uint64{a, b}}.wantTrap(t, w, trap)
		try{in: in(code.SetAt), takes: []int{tInts, api.Int, api.Int}, words: []uint64{a, b, 5}}.wantTrap(t, w, trap)
	}
	for _, i := range indexes(3) {
		wantMiss(api.Index, ref, uint64(i))
		wantMiss(api.Null, 0, uint64(i))
	}
	wantMiss(api.Index, none, 0)
	wantMiss(api.Null, 0, 0)
}

// TestLetters (7.1): the bytes of a text, and none beside them; the empty text has none.
func TestLetters(t *testing.T) {
	w := newWorld(t, sample(), 100)
	s := "a\x00\xff"
	ref := text(t, w.Heap(), s)
	for i := range s {
		try{in: in(code.TextAt), takes: []int{api.Text, api.Int}, words: []uint64{ref, uint64(i)}, gives: []uint64{uint64(s[i])}}.wantGives(t, w)
	}
	for _, i := range indexes(3) {
		try{in: in(code.TextAt), takes: []int{api.Text, api.Int}, words: []uint64{ref, uint64(i)}}.wantTrap(t, w, api.Index)
	}
	for _, i := range append(indexes(1), 0) {
		try{in: in(code.TextAt), takes: []int{api.Text, api.Int}, words: []uint64{0, uint64(i)}}.wantTrap(t, w, api.Index)
	}
}

// TestLen (7.1): of slices and texts; 0 of what is not there.
func TestLen(t *testing.T) {
	w := newWorld(t, sample(), 3000)
	for _, n := range []int{0, 1, 3, api.MaxLen} {
		ref := put(t, w, tInts, make([]uint64, n)...)
		try{in: in(code.Len), takes: []int{tInts}, words: []uint64{ref}, gives: []uint64{uint64(n)}}.wantGives(t, w)
	}
	for _, s := range []string{"", "a", "abc"} {
		try{in: in(code.Len), takes: []int{api.Text}, words: []uint64{text(t, w.Heap(), s)}, gives: []uint64{uint64(len(s))}}.wantGives(t, w)
	}
	try{in: in(code.Len), takes: []int{tPs}, words: []uint64{0}, gives: []uint64{0}}.wantGives(t, w)
}

// TestNew (7.1): an object of the type with a word that is 0 for each field, as long as there is room.
func TestNew(t *testing.T) {
	for kind, fields := range map[int]int{tP: 2, tQ: 0, tR: 1} {
		w := newWorld(t, sample(), 100)
		h := w.Heap()
		ref := uint64(h.Used())
		try{in: in(code.New, kind), gives: []uint64{ref}}.wantGives(t, w)
		if h.Type(ref) != kind || h.Len(ref) != fields || h.Used() != int(ref)+1+fields {
			t.Errorf("7.1: New %d: %v", kind, h.Words()[ref:])
		}
		h.Alloc(0, 100-h.Used()-1-fields)
		try{in: in(code.New, kind)}.wantTrap(t, w, api.Memory)
		w = newWorld(t, sample(), 100)
		h = w.Heap()
		h.Alloc(0, 100-h.Used()-1-(fields+1))
		try{in: in(code.New, kind), gives: []uint64{100 - uint64(fields) - 1}}.wantGives(t, w)
	}
}

// TestMake (7.1): a slice with so many words that are 0; Size comes ahead of Memory.
func TestMake(t *testing.T) {
	for _, kind := range []int{tInts, tPs} {
		for _, n := range []int{0, 1, 5, api.MaxLen - 1, api.MaxLen} {
			w := newWorld(t, sample(), 3000)
			h := w.Heap()
			ref := uint64(h.Used())
			try{in: in(code.Make, kind), takes: ints(1), words: []uint64{uint64(n)}, gives: []uint64{ref}}.wantGives(t, w)
			if h.Type(ref) != kind || h.Len(ref) != n || h.Used() != int(ref)+1+n || slices.Max(append(h.Words()[ref+1:], 0)) != 0 {
				t.Errorf("7.1: Make of %d words", n)
			}
			w = newWorld(t, sample(), 3000)
			w.Heap().Alloc(0, 3000-w.Heap().Used()-1-n)
			try{in: in(code.Make, kind), takes: ints(1), words: []uint64{uint64(n)}}.wantTrap(t, w, api.Memory)
		}
		for _, room := range []int{13, 3000, api.MaxHeap} {
			for _, n := range []int64{math.MinInt64, -1 << 32, -1, api.MaxLen + 1, 1 << 20, 1 << 32, math.MaxInt64} {
				try{in: in(code.Make, kind), takes: ints(1), words: []uint64{uint64(n)}}.wantTrap(t, newWorld(t, sample(), room), api.Size)
			}
		}
	}
}

// TestCast (7.1): an object of the type remains as it is; nil and other types trap.
func TestCast(t *testing.T) {
	w := newWorld(t, sample(), 100)
	p, q, l := put(t, w, tP, 1, 2), put(t, w, tQ), put(t, w, tInts, 1)
	try{in: in(code.Cast, tP), takes: []int{tI}, words: []uint64{p}, gives: []uint64{p}}.wantGives(t, w)
	try{in: in(code.Cast, tQ), takes: []int{tI}, words: []uint64{q}, gives: []uint64{q}}.wantGives(t, w)
	for _, ref := range []uint64{0, q, l, w.Lit(textABC), p + 1, 99, 1 << 40, 1 << 63} {
		try{in: in(code.Cast, tP), takes: []int{tI}, words: []uint64{ref}}.wantTrap(t, w, api.Cast)
	}
	try{in: in(code.Cast, tQ), takes: []int{tI}, words: []uint64{p}}.wantTrap(t, w, api.Cast)
}

// TestPrint (7.1, 10.2): ints, bools and texts; a full trace takes no more.
func TestPrint(t *testing.T) {
	w := newWorld(t, sample(), 100)
	print := func(kind int, v uint64, want string) {
		t.Helper()
		try{in: in(code.Print, kind), takes: []int{kind}, words: []uint64{v}}.wantGives(t, w)
		if l := w.Trace(); l[len(l)-1] != want {
			t.Fatalf("7.1: %d printed as %q, not %q", v, l[len(l)-1], want)
		}
	}
	for _, n := range edges {
		print(api.Int, uint64(n), strconv.FormatInt(n, 10))
	}
	print(api.Bool, 0, "false")
	print(api.Bool, 1, "true")
	print(api.Bool, 1<<63, "true")
	print(api.Text, w.Lit(textABC), "abc")
	print(api.Text, 0, "")
	print(api.Text, text(t, w.Heap(), "\n\xff"), "\n\xff")
	for !w.Full() {
		w.Print(api.Int, 5)
	}
	before := lookAt(w)
	try{in: in(code.Print, api.Int), takes: ints(1), words: []uint64{6}}.wantGives(t, w)
	wantWorld(t, w, before)
}

// TestInput (7.1, 10.2): the inputs in their order, and 0 behind them.
func TestInput(t *testing.T) {
	w := newWorld(t, sample(), 100, 4, math.MinInt64, 0)
	for i, n := range []int64{4, math.MinInt64, 0, 0, 0} {
		try{in: in(code.Input), gives: []uint64{uint64(n)}}.wantGives(t, w)
		if w.Taken() != min(i+1, 3) {
			t.Errorf("7.1: %d inputs taken", w.Taken())
		}
	}
}

// TestWrongReferences (12.2): of what is no object of the type, fields and elements that are not there are read as 0, and not set.
func TestWrongReferences(t *testing.T) {
	w := newWorld(t, sample(), 100)
	h := w.Heap()
	r, l, q := put(t, w, tR, 41), put(t, w, tInts, 300, 301), put(t, w, tQ)
	for _, c := range []struct{ ref, first, second uint64 }{
		{r, 41, 0}, {q, 0, 0}, {l, 300, 301}, {w.Lit(textABC), 'a', 'b'}, {99, 0, 0}, {1 << 32, 0, 0}, {1 << 63, 0, 0}, {1<<64 - 1, 0, 0},
	} {
		try{in: in(code.Field, 0), takes: []int{tP}, words: []uint64{c.ref}, gives: []uint64{c.first}}.wantGives(t, w)
		try{in: in(code.Field, 1), takes: []int{tP}, words: []uint64{c.ref}, gives: []uint64{c.second}}.wantGives(t, w)
		before := h.Words()
		try{in: in(code.SetField, 1), takes: []int{tP, tP}, words: []uint64{c.ref, 7}}.wantGives(t, w)
		n := h.Len(c.ref)
		if n > 1 && int(c.ref)+2 < len(before) {
			before[c.ref+2] = 7
		}
		if !slices.Equal(h.Words(), before) {
			t.Errorf("12.2: field 1 of %d was set: %v", c.ref, h.Words())
		}
		h.Set(c.ref, 1, c.second)
	}
	// The length is that of the head, of whatever type.
	try{in: in(code.Len), takes: []int{tInts}, words: []uint64{r}, gives: []uint64{1}}.wantGives(t, w)
	try{in: in(code.At), takes: []int{tInts, api.Int}, words: []uint64{r, 0}, gives: []uint64{41}}.wantGives(t, w)
	try{in: in(code.At), takes: []int{tInts, api.Int}, words: []uint64{r, 1}}.wantTrap(t, w, api.Index)
	try{in: in(code.At), takes: []int{tInts, api.Int}, words: []uint64{99, 0}}.wantTrap(t, w, api.Index)
	try{in: in(code.SetAt), takes: []int{tInts, api.Int, api.Int}, words: []uint64{1 << 40, 0, 1}}.wantTrap(t, w, api.Index)
	try{in: in(code.Len), takes: []int{tInts}, words: []uint64{99}, gives: []uint64{0}}.wantGives(t, w)
	// The bytes of what is no text are its words modulo 256.
	try{in: in(code.TextAt), takes: []int{api.Text, api.Int}, words: []uint64{l, 0}, gives: []uint64{300 % 256}}.wantGives(t, w)
	try{in: in(code.TextAt), takes: []int{api.Text, api.Int}, words: []uint64{99, 0}}.wantTrap(t, w, api.Index)
	try{in: in(code.TextEq), takes: []int{api.Text, api.Text}, words: []uint64{99, 0}, gives: []uint64{1}}.wantGives(t, w)
	try{in: in(code.Cat), takes: []int{api.Text, api.Text}, words: []uint64{99, 1 << 63}, gives: []uint64{0}}.wantGives(t, w)
}

// TestFalseHead (12.2): a word that is no head may name any length; what stands behind the last word is read as 0, and not set.
func TestFalseHead(t *testing.T) {
	w := newWorld(t, sample(), 100)
	h := w.Heap()
	ref := put(t, w, tR, 50<<32+9)
	false9 := ref + 1
	h.Alloc(tInts, 1)
	before := h.Words()
	try{in: in(code.Len), takes: []int{tInts}, words: []uint64{false9}, gives: []uint64{9}}.wantGives(t, w)
	try{in: in(code.At), takes: []int{tInts, api.Int}, words: []uint64{false9, 0}, gives: []uint64{tInts<<32 + 1}}.wantGives(t, w)
	for i := uint64(2); i < 9; i++ {
		try{in: in(code.At), takes: []int{tInts, api.Int}, words: []uint64{false9, i}, gives: []uint64{0}}.wantGives(t, w)
		try{in: in(code.SetAt), takes: []int{tInts, api.Int, api.Int}, words: []uint64{false9, i, 5}}.wantGives(t, w)
		try{in: in(code.TextAt), takes: []int{api.Text, api.Int}, words: []uint64{false9, i}, gives: []uint64{0}}.wantGives(t, w)
	}
	try{in: in(code.At), takes: []int{tInts, api.Int}, words: []uint64{false9, 9}}.wantTrap(t, w, api.Index)
	if !slices.Equal(h.Words(), before) {
		t.Errorf("12.2: %v", h.Words())
	}
	// A text has at most as many bytes as the heap has words.
	h.Set(ref, 0, 1<<32-1)
	used := uint64(h.Used())
	try{in: in(code.TextAt), takes: []int{api.Text, api.Int}, words: []uint64{false9, used - 1}, gives: []uint64{0}}.wantGives(t, w)
	try{in: in(code.TextAt), takes: []int{api.Text, api.Int}, words: []uint64{false9, used}}.wantTrap(t, w, api.Index)
	try{in: in(code.Len), takes: []int{tInts}, words: []uint64{false9}, gives: []uint64{1<<32 - 1}}.wantGives(t, w)
	try{in: in(code.At), takes: []int{tInts, api.Int}, words: []uint64{false9, 1<<32 - 2}, gives: []uint64{0}}.wantGives(t, w)
	try{in: in(code.At), takes: []int{tInts, api.Int}, words: []uint64{false9, 1<<32 - 1}}.wantTrap(t, w, api.Index)
}

// TestLitOfNone (7.1, 10.1): a World of another program may lack the text.
func TestLitOfNone(t *testing.T) {
	w := newWorld(t, api.Prog{}, 100)
	try{in: in(code.Lit, textABC), gives: []uint64{0}}.wantGives(t, w)
	m, _ := try{in: in(code.Lit, textABC)}.ahead(t, w, 1)
	if m.Run(99) != 4 {
		t.Error("12.1: Run in the World of another program")
	}
	wantOver(t, m, interp.Done, api.NoTrap)
}
