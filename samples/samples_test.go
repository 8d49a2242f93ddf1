package samples_test

import (
	"math"
	"strings"
	"testing"

	"turnstone/api"
	"turnstone/code"
	"turnstone/compile"
	"turnstone/interp"
	"turnstone/samples"
	"turnstone/verify"
)

// program is that of a text, which must be one.
func program(t *testing.T, n int) api.Prog {
	t.Helper()
	s := samples.Text(n)
	p, at, e := compile.Text(s)
	if e != api.OK {
		t.Fatalf("text %d: %d at %v, %q", n, e, at, strings.Split(s, "\n")[at.Line-1])
	}
	if at, e := verify.Verify(p); e != api.OK {
		t.Fatalf("text %d: %d at %v", n, e, at)
	}
	return p
}

// TestPrograms: every text is a program that verify accepts, and together they have all ops.
func TestPrograms(t *testing.T) {
	seen := map[int]int{}
	for n := range 500 {
		for _, f := range program(t, n).Funcs {
			for _, in := range f.Code {
				seen[in.Op]++
			}
		}
	}
	for op := code.Num; op <= code.Ret; op++ {
		if seen[op] == 0 {
			t.Errorf("%s in no program", code.Name(op))
		}
	}
	for _, n := range []int{-1, math.MinInt, math.MaxInt} {
		program(t, n)
	}
}

// TestLively: the programs end in all ways; most of them are long under way, and nearly all come to an end.
func TestLively(t *testing.T) {
	ends, long := map[[2]int]int{}, 0
	for n := range 500 {
		m, e := interp.New(program(t, n), 20000, []int64{3, 0, -5, 1 << 40})
		if e != api.OK {
			t.Fatalf("text %d: %d", n, e)
		}
		if m.Run(100000) > 300 {
			long++
		}
		state, trap := m.Over()
		ends[[2]int{state, trap}]++
	}
	for trap := api.Div; trap <= api.Memory; trap++ {
		if ends[[2]int{interp.Trap, trap}] == 0 {
			t.Errorf("none ends with the trap %d", trap)
		}
	}
	if ends[[2]int{interp.Done, 0}] < 200 || ends[[2]int{interp.Going, 0}] > 50 || long < 250 {
		t.Errorf("%v, %d of them long", ends, long)
	}
}

// TestSame: a number has its own text, the same each time.
func TestSame(t *testing.T) {
	seen := map[string]int{}
	for n := range 200 {
		s := samples.Text(n)
		if samples.Text(n) != s {
			t.Fatalf("text %d is not the same again", n)
		}
		seen[s]++
	}
	if len(seen) != 200 {
		t.Errorf("%d texts of 200 numbers", len(seen))
	}
}
