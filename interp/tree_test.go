package interp_test

import (
	"slices"
	"strconv"
	"testing"

	"turnstone/api"
	"turnstone/interp"
	"turnstone/parse"
	"turnstone/samples"
)

// value is what an expression has; of is the type that the text gives it.
type value struct {
	of string
	n  int64 // of an int, and 0 or 1 of a bool
	s  string
	o  *object
}

// object is one of a struct, or a slice.
type object struct {
	of     string
	fields map[string]value
	elems  []value
}

// walker executes the tree of a program as it stands: what it prints, takes, and how it ends must be what the interpreter does.
type walker struct {
	decls  map[string]api.Node // structs and functions; a method stands under P.m
	scopes []map[string]*value
	depth  int
	used   int
	room   int
	inputs []int64
	trace  []string
	result string
	back   value
}

// How a statement goes on.
const (
	on = iota
	breaks
	continues
	returns
)

func written(n api.Node) string {
	if n.Kind == api.NSliceOf {
		return "[]" + written(n.Kids[0])
	}
	return n.Name
}

func newWalker(n api.Node) *walker {
	w := &walker{decls: map[string]api.Node{}}
	for _, d := range n.Kids {
		name := d.Name
		if d.Kind == api.NFunc && d.Kids[0].Kind == api.NParam {
			name = d.Kids[0].Kids[0].Name + "." + name
		}
		w.decls[name] = d
	}
	return w
}

// run executes main, and returns the trap.
func (w *walker) run() (trap int) {
	defer func() {
		if x := recover(); x != nil {
			trap = int(x.(trapped))
		}
	}()
	w.call("main", nil)
	return api.NoTrap
}

// as gives a value the type of the place where it is put.
func (v value) as(of string) value {
	v.of = of
	return v
}

func (w *walker) call(name string, args []value) value {
	need(w.depth < api.MaxFrames, api.Depth)
	w.depth++
	d, scopes, result := w.decls[name], w.scopes, w.result
	params := d.Kids[3:]
	if d.Kids[0].Kind == api.NParam {
		params = append([]api.Node{d.Kids[0]}, params...)
	}
	w.scopes, w.result, w.back = []map[string]*value{{}}, written(d.Kids[1]), value{}
	for i, p := range params {
		w.declare(p.Name, args[i].as(written(p.Kids[0])))
	}
	w.do(d.Kids[2])
	w.scopes, w.result = scopes, result
	w.depth--
	return w.back
}

func (w *walker) declare(name string, v value) {
	w.scopes[len(w.scopes)-1][name] = &v
}

func (w *walker) find(name string) *value {
	for _, scope := range slices.Backward(w.scopes) {
		if v := scope[name]; v != nil {
			return v
		}
	}
	return nil
}

func (w *walker) do(n api.Node) int {
	switch n.Kind {
	case api.NBlock:
		return w.block(n)
	case api.NVar:
		v := value{}
		if n.Kids[1].Kind != api.NNone {
			v = w.get(n.Kids[1])
		}
		w.declare(n.Name, v.as(written(n.Kids[0])))
	case api.NDefine:
		w.declare(n.Kids[0].Name, w.get(n.Kids[1]))
	case api.NAssign:
		w.assign(n.Kids[0], n.Kids[1])
	case api.NIf:
		if w.get(n.Kids[0]).n != 0 {
			return w.do(n.Kids[1])
		}
		return w.do(n.Kids[2])
	case api.NFor:
		return w.loop(n)
	case api.NBreak:
		return breaks
	case api.NContinue:
		return continues
	case api.NReturn:
		if n.Kids[0].Kind != api.NNone {
			w.back = w.get(n.Kids[0]).as(w.result)
		}
		return returns
	case api.NExpr:
		w.get(n.Kids[0])
	case api.NPrint:
		w.print(w.get(n.Kids[0]))
	}
	return on
}

func (w *walker) block(n api.Node) int {
	outer, way := w.scopes, on
	w.scopes = append(w.scopes, map[string]*value{})
	for i := 0; way == on && i < len(n.Kids); i++ {
		way = w.do(n.Kids[i])
	}
	w.scopes = outer
	return way
}

func (w *walker) loop(n api.Node) int {
	for n.Kids[0].Kind == api.NNone || w.get(n.Kids[0]).n != 0 {
		switch w.do(n.Kids[1]) {
		case breaks:
			return on
		case returns:
			return returns
		}
	}
	return on
}

func (w *walker) assign(to, from api.Node) {
	switch to.Kind {
	case api.NName:
		v := w.get(from)
		place := w.find(to.Name)
		*place = v.as(place.of)
	case api.NSelect:
		x := w.get(to.Kids[0])
		v := w.get(from)
		need(x.o != nil, api.Null)
		x.o.fields[to.Name] = v.as(x.o.fields[to.Name].of)
	case api.NAt:
		x, i := w.get(to.Kids[0]), w.get(to.Kids[1])
		v := w.get(from)
		*w.element(x, i) = v.as(x.of[2:])
	}
}

func (w *walker) element(x, i value) *value {
	need(x.o != nil, api.Null)
	need(i.n >= 0 && i.n < int64(len(x.o.elems)), api.Index)
	return &x.o.elems[i.n]
}

func (w *walker) print(v value) {
	line := strconv.FormatInt(v.n, 10)
	switch v.of {
	case "bool":
		line = strconv.FormatBool(v.n != 0)
	case "string":
		line = v.s
	}
	if len(w.trace) < api.MaxTrace {
		w.trace = append(w.trace, line)
	}
}

func number(n int64) value { return value{of: "int", n: n} }

func truth(is bool) value {
	if is {
		return value{of: "bool", n: 1}
	}
	return value{of: "bool"}
}

func (w *walker) get(n api.Node) value {
	switch n.Kind {
	case api.NInt:
		return number(n.N)
	case api.NTrue, api.NFalse:
		return truth(n.Kind == api.NTrue)
	case api.NText:
		return value{of: "string", s: n.Name}
	case api.NName:
		return *w.find(n.Name)
	case api.NInput:
		if len(w.inputs) == 0 {
			return number(0)
		}
		v := w.inputs[0]
		w.inputs = w.inputs[1:]
		return number(v)
	case api.NNil:
		return value{of: "nil"}
	case api.NNew:
		return w.object(written(n.Kids[0]))
	case api.NMake:
		return w.slice(written(n.Kids[0]), w.get(n.Kids[1]).n)
	case api.NBinary:
		return w.binary(n)
	case api.NCall:
		return w.call(n.Name, w.all(n.Kids))
	case api.NInvoke:
		l := w.all(n.Kids)
		owner := l[0].of
		if w.decls[owner].Kind == api.NFace {
			need(l[0].o != nil, api.Null)
			owner = l[0].o.of
		}
		return w.call(owner+"."+n.Name, l)
	}
	return w.part(n, w.get(n.Kids[0]))
}

func (w *walker) all(l []api.Node) []value {
	var to []value
	for _, n := range l {
		to = append(to, w.get(n))
	}
	return to
}

// part makes a value of the first part x of a node.
func (w *walker) part(n api.Node, x value) value {
	switch n.Kind {
	case api.NUnary:
		if n.Name == "!" {
			return truth(x.n == 0)
		}
		return number(-x.n)
	case api.NSelect:
		need(x.o != nil, api.Null)
		return x.o.fields[n.Name]
	case api.NLen:
		if x.of == "string" {
			return number(int64(len(x.s)))
		}
		if x.o == nil {
			return number(0)
		}
		return number(int64(len(x.o.elems)))
	case api.NCast:
		of := written(n.Kids[1])
		need(x.o != nil && x.o.of == of, api.Cast)
		return x.as(of)
	}
	i := w.get(n.Kids[1])
	if x.of != "string" {
		return *w.element(x, i)
	}
	need(i.n >= 0 && i.n < int64(len(x.s)), api.Index)
	return number(int64(x.s[i.n]))
}

// take takes words of the heap.
func (w *walker) take(n int) {
	need(w.used+n <= w.room, api.Memory)
	w.used += n
}

func (w *walker) object(of string) value {
	o := &object{of: of, fields: map[string]value{}}
	for _, f := range w.decls[of].Kids {
		o.fields[f.Name] = value{of: written(f.Kids[0])}
	}
	w.take(1 + len(o.fields))
	return value{of: of, o: o}
}

func (w *walker) slice(of string, n int64) value {
	need(n >= 0 && n <= api.MaxLen, api.Size)
	w.take(1 + int(n))
	return value{of: of, o: &object{of: of, elems: slices.Repeat([]value{{of: of[2:]}}, int(n))}}
}

func (w *walker) binary(n api.Node) value {
	var l, r value
	if n.Name == "&&" || n.Name == "||" {
		l = w.get(n.Kids[0])
		if (l.n != 0) == (n.Name == "||") {
			return l
		}
		return w.get(n.Kids[1])
	}
	if n.Name[0] == '>' && w.typeOf(n.Kids[0]) == "string" { // then the right one comes first
		r = w.get(n.Kids[1])
		l = w.get(n.Kids[0])
	} else {
		l, r = w.get(n.Kids[0]), w.get(n.Kids[1])
	}
	switch {
	case n.Name == "==":
		return truth(l.n == r.n && l.s == r.s && l.o == r.o)
	case n.Name == "!=":
		return truth(l.n != r.n || l.s != r.s || l.o != r.o)
	case l.of == "string":
		return w.texts(n.Name, l.s, r.s)
	}
	switch n.Name {
	case "+":
		return number(l.n + r.n)
	case "-":
		return number(l.n - r.n)
	case "*":
		return number(l.n * r.n)
	case "<":
		return truth(l.n < r.n)
	case "<=":
		return truth(l.n <= r.n)
	case ">":
		return truth(l.n > r.n)
	case ">=":
		return truth(l.n >= r.n)
	}
	need(r.n != 0, api.Div)
	if n.Name == "/" {
		return number(l.n / r.n)
	}
	return number(l.n % r.n)
}

// typeOf is the type that an expression has, without its being executed.
func (w *walker) typeOf(n api.Node) string {
	switch n.Kind {
	case api.NText:
		return "string"
	case api.NName:
		return w.find(n.Name).of
	case api.NNew, api.NMake:
		return written(n.Kids[0])
	case api.NCast:
		return written(n.Kids[1])
	case api.NCall:
		return written(w.decls[n.Name].Kids[1])
	case api.NSelect:
		return written(w.member(w.typeOf(n.Kids[0]), n.Name).Kids[0])
	case api.NInvoke:
		owner := w.typeOf(n.Kids[0])
		if w.decls[owner].Kind == api.NFace {
			return written(w.member(owner, n.Name).Kids[0])
		}
		return written(w.decls[owner+"."+n.Name].Kids[1])
	case api.NAt:
		if of := w.typeOf(n.Kids[0]); of != "string" {
			return of[2:]
		}
	case api.NBinary:
		if n.Name == "+" {
			return w.typeOf(n.Kids[0])
		}
	}
	return "" // an int or a bool
}

// member is a field of a struct, or a method of an interface.
func (w *walker) member(owner, name string) api.Node {
	for _, x := range w.decls[owner].Kids {
		if x.Name == name {
			return x
		}
	}
	return api.Node{}
}

func (w *walker) texts(sign, l, r string) value {
	switch sign {
	case "<":
		return truth(l < r)
	case "<=":
		return truth(l <= r)
	case ">":
		return truth(l > r)
	case ">=":
		return truth(l >= r)
	}
	need(len(l)+len(r) <= api.MaxLen, api.Memory)
	if l+r != "" {
		w.take(1 + len(l) + len(r))
	}
	return value{of: "string", s: l + r}
}

// wantWalked compares a run of a text with a walk over its tree, unless the run is too long; it tells how it ended.
func wantWalked(t *testing.T, s string, room int, inputs ...int64) (state, trap int) {
	t.Helper()
	m := started(t, program(t, s), room, inputs...)
	tree, _, _ := parse.Parse(s)
	w := newWalker(tree)
	w.room, w.used, w.inputs = room, m.World().Heap().Used(), inputs
	m.Run(50000)
	state, trap = m.Over()
	if state == interp.Going {
		return state, trap
	}
	if got := w.run(); got != trap || !slices.Equal(w.trace, m.World().Trace()) || w.used != m.World().Heap().Used() || len(inputs)-len(w.inputs) != m.World().Taken() {
		t.Fatalf("8.2: trap %d, %d words, not %d, %d; printed\n%q, not\n%q, of\n%s", trap, m.World().Heap().Used(), got, w.used, m.World().Trace(), w.trace, s)
	}
	return state, trap
}

// TestWalked (8.2, 8.3): programs do what their trees say.
func TestWalked(t *testing.T) {
	ends := map[int]int{}
	for n := range 400 {
		state, trap := wantWalked(t, samples.Text(n), 500+n*20, 4, -1, 0, 1<<40)
		if state != interp.Going {
			ends[trap]++
		}
	}
	for trap := api.NoTrap; trap <= api.Memory; trap++ {
		if ends[trap] == 0 {
			t.Errorf("none ended with the trap %d: %v", trap, ends)
		}
	}
}
