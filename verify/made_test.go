package verify_test

import (
	"slices"
	"strings"
	"testing"

	"turnstone/api"
	"turnstone/code"
	"turnstone/kinds"
	"turnstone/verify"
)

// maker puts code of a main together that is to be accepted, and keeps the types that are on the stack ahead of each pc.
type maker struct {
	stir
	p       api.Prog
	takings []taking
	l       []api.Instr
	ahead   [][]int // of each pc; nil where it is not reached
	now     []int   // nil where the code does not go on
	open    []int   // pcs of jumps whose target is not known yet
}

// newMain makes a main of about so many instructions.
func newMain(s *stir, n int) *maker {
	m := &maker{stir: *s, p: world(), takings: takings()}
	m.code(n)
	*s = m.stir
	return m
}

// code makes some instructions, and what brings all ways to an end.
func (m *maker) code(n int) {
	m.now = []int{}
	for len(m.l) < n {
		switch {
		case m.now == nil:
			m.resume()
		case m.below(5) == 0:
			m.branch()
		case m.below(8) == 0:
			m.whole()
		default:
			m.straight()
		}
	}
	for m.now != nil || len(m.open) > 0 {
		if m.now == nil {
			m.resume()
		}
		for len(m.now) > 0 {
			m.put(in(code.Pop), 1, api.Void)
		}
		m.put(ret, 0, api.Void)
		m.now = nil
	}
	// What stands last may be something that is not reached.
	if m.l[len(m.l)-1].Op != code.Ret {
		m.put(ret, 0, api.Void)
	}
}

// put writes an instruction that takes so many words and pushes one of a type, unless it is Void.
func (m *maker) put(x api.Instr, takes, gives int) {
	m.l = append(m.l, x)
	m.ahead = append(m.ahead, m.now)
	if m.now == nil {
		return
	}
	m.now = append([]int{}, m.now[:len(m.now)-takes]...)
	if gives != api.Void {
		m.now = append(m.now, gives)
	}
}

// resume lets a jump that is open lead here, or writes what is not reached.
func (m *maker) resume() {
	if len(m.open) == 0 || m.below(6) == 0 {
		m.put(m.anyInstr(1), 0, api.Void)
		return
	}
	m.now = m.after(m.open[0])
	m.land()
}

// after is what the stack is behind a Jump or a JumpNo.
func (m *maker) after(pc int) []int {
	l := m.ahead[pc]
	if m.l[pc].Op == code.JumpNo {
		l = l[:len(l)-1]
	}
	return append([]int{}, l...)
}

// land lets all open jumps lead here whose stack is the present one.
func (m *maker) land() {
	var open []int
	for _, pc := range m.open {
		if slices.Equal(m.after(pc), m.now) {
			m.l[pc].A = len(m.l)
		} else {
			open = append(open, pc)
		}
	}
	m.open = open
}

// branch writes a jump, to a pc with the same stack or to one that is to come.
func (m *maker) branch() {
	m.land()
	x, takes := in(code.Jump), 0
	if m.below(4) > 0 {
		m.put(in(code.Bit, m.below(2)), 0, api.Bool)
		x, takes = in(code.JumpNo), 1
	}
	pc := len(m.l)
	m.put(x, takes, api.Void)
	var back []int
	for at, l := range m.ahead[:pc] {
		if l != nil && slices.Equal(l, m.after(pc)) {
			back = append(back, at)
		}
	}
	if len(back) > 0 && m.below(2) == 0 {
		m.l[pc].A = back[m.below(len(back))]
	} else {
		m.open = append(m.open, pc)
	}
	if x.Op == code.Jump {
		m.now = nil
	}
}

// whole writes an instruction with the words that it takes.
func (m *maker) whole() {
	l := m.takings
	c := l[m.below(len(l))]
	if c.takes == "" || c.in.Op == code.JumpNo {
		return
	}
	several := strings.Split(c.takes, "|")
	taken := strings.Fields(several[m.below(len(several))])
	for i, x := range loads(taken) {
		m.put(x, 0, numbers(taken)[i])
	}
	gives := api.Void
	if name := c.pushed(taken); name != "" {
		gives = numbers([]string{name})[0]
	}
	m.put(c.in, len(taken), gives)
}

// straight writes an instruction that goes on behind itself and takes what is there, or pushes something.
func (m *maker) straight() {
	for range 20 {
		x := m.anyInstr(1)
		after, e := modelStep(m.p, api.Func{Locals: values}, x, m.now)
		if e != api.OK || x.Op == code.Jump || x.Op == code.JumpNo || x.Op == code.Ret || len(m.now) == 0 && m.below(3) == 0 {
			continue
		}
		takes := takenBy(x)
		gives := api.Void
		if len(after) > len(m.now)-takes {
			gives = after[len(after)-1]
		}
		m.put(x, takes, gives)
		return
	}
	m.put(in(code.Load, m.below(len(values))), 0, api.Void)
	m.now = append(m.now, values[m.l[len(m.l)-1].A])
}

// TestMade (9.2, 9.3): made code is accepted, and its stacks are those that it was made with.
func TestMade(t *testing.T) {
	s := stir(11)
	ops := map[int]int{}
	for range 1500 {
		m := newMain(&s, 1+s.below(60))
		p := world(m.l...)
		if where, e := verify.Verify(p); e != api.OK {
			t.Fatalf("9.2: %d at %v:\n%s", e, where, code.Show(p.Funcs[fMain]))
		}
		heights, _ := verify.Heights(p, fMain)
		for pc, l := range m.ahead {
			got, ok := verify.Types(p, fMain, pc)
			if ok != (l != nil) || !slices.Equal(got, l) || l != nil && heights[pc] != len(l) || l == nil && heights[pc] != -1 {
				t.Fatalf("9.3: %d: %v %v and %d, not %v:\n%s", pc, got, ok, heights[pc], l, code.Show(p.Funcs[fMain]))
			}
			if l != nil {
				ops[m.l[pc].Op]++
			}
		}
	}
	for op := code.Num; op <= code.Ret; op++ {
		if ops[op] < 50 {
			t.Errorf("the made code has %s only %d times", code.Name(op), ops[op])
		}
	}
}

// runner takes ways through code as an interpreter does, any way at a JumpNo, with the types of the words that are there.
type runner struct {
	*stir
	t       *testing.T
	p       api.Prog
	f       int
	heights []int
	types   [][]int
	stack   []int
}

// newRunner asks for the heights and types of a function that is accepted.
func newRunner(t *testing.T, s *stir, p api.Prog, f int) *runner {
	heights, ok := verify.Heights(p, f)
	if !ok || len(heights) != len(p.Funcs[f].Code) {
		t.Fatalf("9.3: heights %v %v", heights, ok)
	}
	r := &runner{stir: s, t: t, p: p, f: f, heights: heights}
	for pc := range heights {
		l, _ := verify.Types(p, f, pc)
		r.types = append(r.types, l)
	}
	return r
}

// step executes an instruction and returns the pc behind it, or -1.
func (r *runner) step(pc int) int {
	x := r.p.Funcs[r.f].Code[pc]
	takes := takenBy(x)
	if x.Op == code.Ret {
		takes = x.A
	}
	if takes > len(r.stack) {
		r.t.Errorf("9.4: a word that does not exist, at %d:\n%s", pc, code.Show(r.p.Funcs[r.f]))
		return -1
	}
	after, _ := modelStep(r.p, r.p.Funcs[r.f], x, r.stack)
	r.stack = after
	if x.Op == code.Ret {
		if len(after) > 0 {
			r.t.Errorf("9.4: words are left at %d:\n%s", pc, code.Show(r.p.Funcs[r.f]))
		}
		return -1
	}
	next := code.Targets(x, pc)
	return next[r.below(len(next))]
}

// run goes so many steps and compares the stack with what Heights and Types answered.
func (r *runner) run(steps int) {
	pc := 0
	r.stack = nil
	for ; steps > 0 && pc >= 0; steps-- {
		if pc >= len(r.heights) {
			r.t.Fatalf("9.4: beyond the end:\n%s", code.Show(r.p.Funcs[r.f]))
		}
		if r.heights[pc] != len(r.stack) || !slices.Equal(r.types[pc], r.stack) {
			r.t.Fatalf("9.4: %v at %d, not %v:\n%s", r.stack, pc, r.types[pc], code.Show(r.p.Funcs[r.f]))
		}
		pc = r.step(pc)
	}
}

// TestAccepted (9.4): whichever way accepted code takes, it has the words that it takes, ends at a Ret, and has one stack at each pc.
func TestAccepted(t *testing.T) {
	s := stir(12)
	runs := 0
	for i := range 4000 {
		l := newMain(&s, 1+s.below(50)).l
		if i%2 == 1 {
			l[s.below(len(l)-1)] = s.anyInstr(len(l))
		}
		p := world(l...)
		if _, e := verify.Verify(p); e != api.OK {
			continue
		}
		runs++
		r := newRunner(t, &s, p, fMain)
		for range 6 {
			r.run(300)
		}
	}
	if runs < 2200 {
		t.Errorf("9.4: only %d are accepted", runs)
	}
}

// TestModelKnowsFits (9.2): what the maker takes from package kinds, said once more for the types of world.
func TestModelKnowsFits(t *testing.T) {
	l := world().Types
	for _, s := range []int{tP, tQ, tR} {
		for _, f := range []int{tI, tE, tK} {
			want := f == tE || f == tI && s != tQ
			if kinds.Has(l, s, f) != want {
				t.Errorf("2.3: Has(%d, %d)", s, f)
			}
		}
	}
}
