package frames

import (
	"turnstone/api"
	"turnstone/code"
	"turnstone/verify"
)

// Right reports whether l is a list of frames that p may have under way.
func Right(p api.Prog, l []api.Frame) bool {
	if len(l) == 0 || len(l) > api.MaxFrames {
		return false
	}
	g := guide{p: p, heights: make([][]int, len(p.Funcs))}
	last := len(l) - 1
	for _, x := range l[:last] {
		if !g.mayCall(x) {
			return false
		}
	}
	return g.mayRun(l[last])
}

// guide tells what a frame at a pc must be. It asks for the heights of a function only once,
// because each answer takes a walk over the whole program, and in a recursion many frames are of one function.
type guide struct {
	p       api.Prog
	heights [][]int // of each function that was asked for
}

// mayRun reports whether x may be the last frame of a list.
func (g *guide) mayRun(x api.Frame) bool {
	height, ok := g.height(x)
	return ok && len(x.Stack) == height
}

// mayCall reports whether x may be a frame with another one above it: it stands at its call, the arguments of which are gone already.
func (g *guide) mayCall(x api.Frame) bool {
	height, ok := g.height(x)
	if !ok {
		return false
	}
	in := g.p.Funcs[x.Func].Code[x.PC]
	if in.Op != code.Call && in.Op != code.Invoke {
		return false
	}
	// Of both, B is the number of words that are taken.
	return len(x.Stack) == height-in.B
}

// height returns the height ahead of the instruction of x, and false if no frame with this function, pc and number of locals may be.
func (g *guide) height(x api.Frame) (int, bool) {
	heights := g.of(x.Func)
	if x.PC < 0 || x.PC >= len(heights) || heights[x.PC] < 0 {
		return 0, false
	}
	if len(x.Locals) != len(g.p.Funcs[x.Func].Locals) {
		return 0, false
	}
	return heights[x.PC], true
}

// of returns the heights of function f, and none if there is no such function.
func (g *guide) of(f int) []int {
	if f < 0 || f >= len(g.heights) {
		return nil
	}
	if g.heights[f] == nil {
		g.heights[f], _ = verify.Heights(g.p, f)
	}
	return g.heights[f]
}
