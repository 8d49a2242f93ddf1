package compile

import (
	"turnstone/api"
)

// assembler puts the code of a function together.
type assembler struct {
	code   []api.Instr
	labels []int // the pc of each label, once it is set
	jumps  []jump
}

// jump is the pc of an instruction that lacks its target until all labels are set.
type jump struct {
	pc, label int
}

func (a *assembler) put(op int) {
	a.putAB(op, 0, 0)
}

func (a *assembler) putA(op, first int) {
	a.putAB(op, first, 0)
}

func (a *assembler) putAB(op, first, second int) {
	a.code = append(a.code, api.Instr{Op: op, A: first, B: second})
}

func (a *assembler) newLabel() int {
	a.labels = append(a.labels, 0)
	return len(a.labels) - 1
}

// set lets a label stand for the pc that comes next.
func (a *assembler) set(label int) {
	a.labels[label] = len(a.code)
}

// putJump writes a Jump or a JumpNo to a label.
func (a *assembler) putJump(op, label int) {
	a.jumps = append(a.jumps, jump{len(a.code), label})
	a.put(op)
}

// resolve gives each jump its target.
func (a *assembler) resolve() {
	for _, j := range a.jumps {
		a.code[j.pc].A = a.labels[j.label]
	}
}
