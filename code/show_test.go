package code_test

import (
	"math"
	"reflect"
	"strconv"
	"strings"
	"testing"

	"turnstone/api"
	"turnstone/code"
)

// wantShown fails the test if the lines of l are not these.
func wantShown(t *testing.T, l []api.Instr, want string) {
	t.Helper()
	if s := code.Show(api.Func{Code: l}); s != want {
		t.Errorf("7.2: %v is shown as %q, not %q", l, s, want)
	}
}

// TestShowEach (7.2): the line of each op alone, with what it shows of A and B.
func TestShowEach(t *testing.T) {
	for _, n := range [][2]int{{0, 0}, {3, 1}, {0, 7}, {-1, -2}, {4000, 10}, {math.MaxInt, math.MinInt}, {math.MinInt, math.MaxInt}} {
		for _, r := range table(t) {
			want := "0 " + r.name
			for _, x := range n[:r.shown] {
				want += " " + strconv.Itoa(x)
			}
			wantShown(t, []api.Instr{{Op: r.op, A: n[0], B: n[1]}}, want+"\n")
		}
	}
}

// TestShowBytes (7.2): lines written out, one for each op and for some numbers that are none.
func TestShowBytes(t *testing.T) {
	var l []api.Instr
	for op := 0; op <= 43; op++ {
		l = append(l, api.Instr{Op: op, A: 5, B: 6})
	}
	l = append(l, api.Instr{Op: -1, A: 5, B: 6}, api.Instr{Op: math.MinInt, A: 5}, api.Instr{Op: math.MaxInt, B: 6})
	wantShown(t, l, `0 op0
1 Num 5
2 Bit 5
3 Lit 5
4 Null 5
5 Load 5
6 Store 5
7 Pop
8 Add
9 Sub
10 Mul
11 Div
12 Rem
13 Neg
14 Not
15 Eq
16 Ne
17 Lt
18 Le
19 Gt
20 Ge
21 Cat
22 TextEq
23 TextNe
24 TextLt
25 TextLe
26 Jump 5
27 JumpNo 5
28 Field 5
29 SetField 5
30 At
31 SetAt
32 TextAt
33 Len
34 New 5
35 Make 5
36 Call 5 6
37 Invoke 5 6
38 Cast 5
39 Print 5
40 Input
41 Ret 5
42 op42
43 op43
44 op-1
45 op-9223372036854775808
46 op9223372036854775807
`)
}

// TestShowOthers (7.2): numbers that are no op show neither A nor B.
func TestShowOthers(t *testing.T) {
	for _, op := range others() {
		wantShown(t, []api.Instr{{Op: op, A: 5, B: 6}}, "0 op"+strconv.Itoa(op)+"\n")
	}
}

// TestShowNegative (7.2): numbers below 0, where they are shown and where they are not.
func TestShowNegative(t *testing.T) {
	wantShown(t, []api.Instr{{Op: code.JumpNo, A: -1}, {Op: code.Call, A: -3, B: -10}, {Op: code.Invoke, A: 0, B: -1}, {Op: code.Add, A: -1, B: -1}},
		"0 JumpNo -1\n1 Call -3 -10\n2 Invoke 0 -1\n3 Add\n")
}

// TestShowNone (7.2): no instruction, no line, whatever else the function has.
func TestShowNone(t *testing.T) {
	wantShown(t, nil, "")
	wantShown(t, []api.Instr{}, "")
	f := api.Func{Name: "f", Params: []int{api.Int}, Result: api.Bool, Locals: []int{api.Int, api.Text}}
	if s := code.Show(f); s != "" {
		t.Errorf("7.2: no code is shown as %q", s)
	}
}

// TestShowCodeAlone (7.2, R2): only the code is shown, no further than its length, and nothing of f is changed.
func TestShowCodeAlone(t *testing.T) {
	all := []api.Instr{{Op: code.Load, A: 0}, {Op: code.Print, A: 3}, {Op: code.Ret}, {Op: code.Pop}}
	f := api.Func{Name: "f\n", Params: []int{api.Text}, Locals: []int{api.Text}, Code: all[:3]}
	if s := code.Show(f); s != "0 Load 0\n1 Print 3\n2 Ret 0\n" {
		t.Errorf("7.2: %q", s)
	}
	if want := []api.Instr{{Op: code.Load}, {Op: code.Print, A: 3}, {Op: code.Ret}, {Op: code.Pop}}; !reflect.DeepEqual(all, want) {
		t.Errorf("R2: the code became %v", all)
	}
	if !reflect.DeepEqual(f, api.Func{Name: "f\n", Params: []int{api.Text}, Locals: []int{api.Text}, Code: all[:3]}) {
		t.Errorf("R2: the function became %v", f)
	}
}

// TestShowMany (7.2): code far longer than that of any function that may be executed, whose ops and numbers follow a rule.
func TestShowMany(t *testing.T) {
	l := table(t)
	var many []api.Instr
	var want strings.Builder
	for pc := range 300000 {
		r := l[pc*7%len(l)]
		in := api.Instr{Op: r.op, A: pc*13 - 40000, B: 100 - pc}
		many = append(many, in)
		want.WriteString(strconv.Itoa(pc) + " " + r.name)
		for _, n := range []int{in.A, in.B}[:r.shown] {
			want.WriteString(" " + strconv.Itoa(n))
		}
		want.WriteByte('\n')
	}
	if code.Show(api.Func{Code: many}) != want.String() {
		t.Errorf("7.2: %d instructions are not shown line by line", len(many))
	}
}

// TestShowAgain (7.2, R4): the same code has the same lines each time.
func TestShowAgain(t *testing.T) {
	f := api.Func{Code: []api.Instr{{Op: code.Bit, A: 1}, {Op: code.Ret, A: 1}}}
	g := api.Func{Code: []api.Instr{{Op: code.Input}}}
	for range 3 {
		if s := code.Show(f) + code.Show(g); s != "0 Bit 1\n1 Ret 1\n0 Input\n" {
			t.Errorf("7.2: %q", s)
		}
	}
}
