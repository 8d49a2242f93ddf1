package verify

import (
	"container/heap"
	"slices"

	"turnstone/api"
	"turnstone/code"
)

// pcs is a heap of pcs, the least first.
type pcs []int

func (l pcs) Len() int           { return len(l) }
func (l pcs) Less(i, j int) bool { return l[i] < l[j] }
func (l pcs) Swap(i, j int)      { l[i], l[j] = l[j], l[i] }
func (l *pcs) Push(x any)        { *l = append(*l, x.(int)) }

func (l *pcs) Pop() any {
	last := len(*l) - 1
	pc := (*l)[last]
	*l = (*l)[:last]
	return pc
}

// stack is what is known ahead of a pc: the types of the words, the lowest first.
type stack struct {
	known bool
	types []int
}

// walk goes over the code of a function whose instructions have no fault of their own.
type walk struct {
	p     api.Prog
	f     api.Func
	ahead []stack // for each pc
	waits pcs     // those that are known and not processed
}

// run processes all that is reached, and returns the first fault and its pc.
func (w *walk) run() (int, api.Errno) {
	w.reach(0, nil)
	for w.waits.Len() > 0 {
		pc := heap.Pop(&w.waits).(int)
		if e := w.process(pc); e != api.OK {
			return pc, e
		}
	}
	return 0, api.OK
}

// process hands the stack ahead of pc on to the pcs that may follow.
func (w *walk) process(pc int) api.Errno {
	in := w.f.Code[pc]
	after, e := w.apply(in, w.ahead[pc].types)
	if e != api.OK {
		return e
	}
	for _, next := range code.Targets(in, pc) {
		if !w.reach(next, after) {
			return api.ErrHeight
		}
	}
	return api.OK
}

// reach tells a pc its types, and reports whether they are those that it already has, if it has any.
func (w *walk) reach(pc int, types []int) bool {
	s := &w.ahead[pc]
	if s.known {
		return slices.Equal(s.types, types)
	}
	*s = stack{known: true, types: types}
	heap.Push(&w.waits, pc)
	return true
}

// apply returns the types after an instruction. It leaves those ahead of it as they are, because other pcs may have them too.
func (w *walk) apply(in api.Instr, ahead []int) ([]int, api.Errno) {
	rest := len(ahead) - w.takes(in)
	if rest < 0 {
		return nil, api.ErrHeight
	}
	taken := ahead[rest:]
	if !w.accepts(in, taken) {
		return nil, api.ErrType
	}
	if in.Op == code.Ret && rest > 0 {
		return nil, api.ErrHeight
	}
	after := append(make([]int, 0, rest+1), ahead[:rest]...)
	if t := w.pushes(in, taken); t != api.Void {
		after = append(after, t)
	}
	if len(after) > api.MaxStack {
		return nil, api.ErrHeight
	}
	return after, api.OK
}

// takes returns how many words an instruction takes.
func (w *walk) takes(in api.Instr) int {
	switch in.Op {
	case code.Call, code.Invoke:
		return in.B
	case code.Ret:
		return in.A
	}
	n, _, _ := code.Moves(in.Op)
	return n
}
