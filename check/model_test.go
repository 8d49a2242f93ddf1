package check_test

import (
	"slices"
	"strconv"
	"strings"

	"turnstone/api"
	"turnstone/check"
	"turnstone/kinds"
)

// modelSig is a function, a method, or what an interface asks for; its types are written out.
type modelSig struct {
	params []string
	result string
	number int
}

// modelType is a declared type; the lists hold its members in order.
type modelType struct {
	face    bool
	fields  map[string]string
	methods map[string]modelSig
	list    []string
	calls   []string
}

// model says chapter 6 with types as they are written, and stops at the first error by a panic.
type model struct {
	types  []string
	decls  map[string]*modelType
	funcs  map[string]modelSig
	sigs   []string
	count  int
	result string
	vars   int
	loops  int
}

// modelFault is what a model stops with.
type modelFault struct {
	at api.Place
	e  api.Errno
}

func stopAt(n api.Node, e api.Errno, wrong bool) {
	if wrong {
		panic(modelFault{api.Place{Line: n.Line, Col: n.Col}, e})
	}
}

// modelCheck returns what is told of a tree that Parse returned.
func modelCheck(n api.Node) (told string, at api.Place, e api.Errno) {
	defer func() {
		if f, ok := recover().(modelFault); ok {
			told, at, e = "", f.at, f.e
		}
	}()
	m := &model{types: []string{"", "int", "bool", "string", "nil"}, decls: map[string]*modelType{}, funcs: map[string]modelSig{}}
	m.declare(n)
	m.fill(n)
	m.heads(n)
	start, ok := m.funcs["main"]
	stopAt(api.Node{Line: 1, Col: 1}, api.ErrName, !ok || len(start.params) > 0 || start.result != "")
	for _, f := range n.Kids {
		if f.Kind == api.NFunc {
			m.body(f)
		}
	}
	return m.told(start.number), at, e
}

func (m *model) declare(n api.Node) {
	for _, d := range n.Kids {
		if d.Kind == api.NFunc {
			continue
		}
		stopAt(d, api.ErrTwice, m.decls[d.Name] != nil)
		stopAt(d, api.ErrCount, len(m.decls) >= 40)
		m.decls[d.Name] = &modelType{face: d.Kind == api.NFace, fields: map[string]string{}, methods: map[string]modelSig{}}
		m.types = append(m.types, d.Name)
	}
}

// written returns a type as it is written, and keeps the Slices that are new.
func (m *model) written(n api.Node) string {
	switch n.Kind {
	case api.NNone:
		return ""
	case api.NTypeName:
		stopAt(n, api.ErrName, m.decls[n.Name] == nil && n.Name != "int" && n.Name != "bool" && n.Name != "string")
		return n.Name
	}
	s := "[]" + m.written(n.Kids[0])
	if !slices.Contains(m.types, s) {
		stopAt(n, api.ErrCount, len(m.types) >= 60)
		m.types = append(m.types, s)
	}
	return s
}

func (m *model) fill(n api.Node) {
	for _, d := range n.Kids {
		if d.Kind == api.NFunc {
			continue
		}
		own := m.decls[d.Name]
		for i, x := range d.Kids {
			_, field := own.fields[x.Name]
			_, method := own.methods[x.Name]
			stopAt(x, api.ErrTwice, field || method)
			stopAt(x, api.ErrCount, i >= 12)
			if x.Kind == api.NField {
				own.fields[x.Name] = m.written(x.Kids[0])
				own.list = append(own.list, x.Name+" "+own.fields[x.Name])
				continue
			}
			stopAt(x, api.ErrCount, len(x.Kids) > 9)
			asked := modelSig{result: m.written(x.Kids[0]), number: -1}
			for _, p := range x.Kids[1:] {
				asked.params = append(asked.params, m.written(p))
			}
			own.methods[x.Name] = asked
			own.calls = append(own.calls, x.Name+asked.told())
		}
	}
}

func (s modelSig) told() string {
	return "(" + strings.Join(s.params, ",") + ")" + s.result + "#" + strconv.Itoa(s.number)
}

func (m *model) heads(n api.Node) {
	for _, f := range n.Kids {
		if f.Kind != api.NFunc {
			continue
		}
		params, receiver := f.Kids[3:], ""
		if r := f.Kids[0]; r.Kind == api.NNone {
			_, twice := m.funcs[f.Name]
			stopAt(f, api.ErrTwice, twice)
		} else {
			receiver = r.Kids[0].Name
			own := m.decls[receiver]
			stopAt(r.Kids[0], api.ErrName, own == nil || own.face)
			_, field := own.fields[f.Name]
			_, method := own.methods[f.Name]
			stopAt(f, api.ErrTwice, field || method)
			stopAt(f, api.ErrCount, len(own.methods) >= 12)
			params = append([]api.Node{r}, params...)
		}
		stopAt(f, api.ErrCount, m.count >= 60)
		stopAt(f, api.ErrCount, len(params) > 8)
		m.head(f, receiver, params)
		m.count++
	}
}

func (m *model) head(f api.Node, receiver string, params []api.Node) {
	names := map[string]int{}
	for _, p := range params {
		names[p.Name]++
		stopAt(p, api.ErrTwice, names[p.Name] > 1)
	}
	sig := modelSig{result: m.written(f.Kids[1]), number: m.count}
	for _, p := range params {
		sig.params = append(sig.params, m.written(p.Kids[0]))
	}
	m.sigs = append(m.sigs, receiver+"."+f.Name+sig.told())
	if receiver == "" {
		m.funcs[f.Name] = sig
		return
	}
	own, method := m.decls[receiver], sig
	method.params = sig.params[1:]
	own.methods[f.Name] = method
	own.calls = append(own.calls, f.Name+method.told())
}

// told tells all of an Info.
func (m *model) told(start int) string {
	var b strings.Builder
	for _, name := range m.types {
		b.WriteString(name)
		if d := m.decls[name]; d != nil {
			b.WriteString(" " + strconv.FormatBool(d.face) + "{" + strings.Join(d.list, ";") + "}{" + strings.Join(d.calls, ";") + "}")
		}
		b.WriteString("\n")
	}
	return b.String() + strings.Join(m.sigs, "\n") + "\n" + strconv.Itoa(start)
}

// toldOf tells all of an Info in the words of a model.
func toldOf(info check.Info) string {
	names := func(l []int) []string {
		var named []string
		for _, t := range l {
			named = append(named, kinds.Name(info.Types, t))
		}
		return named
	}
	m := &model{decls: map[string]*modelType{}}
	for t, own := range info.Types {
		name := kinds.Name(info.Types, t)
		m.types = append(m.types, name)
		if own.Kind != api.Struct && own.Kind != api.Face {
			continue
		}
		d := &modelType{face: own.Kind == api.Face}
		for _, f := range own.Fields {
			d.list = append(d.list, f.Name+" "+kinds.Name(info.Types, f.Type))
		}
		for _, k := range own.Methods {
			d.calls = append(d.calls, k.Name+modelSig{names(k.Params), kinds.Name(info.Types, k.Result), k.Func}.told())
		}
		m.decls[name] = d
	}
	for i, f := range info.Funcs {
		m.sigs = append(m.sigs, kinds.Name(info.Types, f.Recv)+"."+f.Name+modelSig{names(f.Params), kinds.Name(info.Types, f.Result), i}.told())
	}
	return m.told(info.Main)
}

// scope is one block's variables, and the blocks around it.
type scope struct {
	vars   map[string]string
	around *scope
}

func (s *scope) of(name string) (string, bool) {
	if s == nil {
		return "", false
	}
	if of, ok := s.vars[name]; ok {
		return of, true
	}
	return s.around.of(name)
}

func (m *model) body(f api.Node) {
	params := &scope{vars: map[string]string{}}
	m.vars, m.loops, m.result = 0, 0, m.written(f.Kids[1])
	for _, p := range append([]api.Node{f.Kids[0]}, f.Kids[3:]...) {
		if p.Kind == api.NParam {
			params.vars[p.Name] = m.written(p.Kids[0])
			m.vars++
		}
	}
	over := m.block(f.Kids[2], params)
	stopAt(f, api.ErrEnd, m.result != "" && over != returned)
}

// How a statement is left, at the latest.
const (
	goesOn = iota
	returned
	broken // it goes on, and a break in it leaves the loop around it
)

// block returns how it is left.
func (m *model) block(n api.Node, around *scope) int {
	in, last, anyBreak := &scope{vars: map[string]string{}, around: around}, goesOn, false
	for _, s := range n.Kids {
		last = m.stmt(s, in)
		anyBreak = anyBreak || last == broken
	}
	if anyBreak {
		return broken
	}
	return last
}

func (m *model) let(n api.Node, of string, in *scope) {
	_, twice := in.vars[n.Name]
	stopAt(n, api.ErrTwice, twice)
	stopAt(n, api.ErrCount, m.vars >= 40)
	m.vars++
	in.vars[n.Name] = of
}

func (m *model) stmt(n api.Node, in *scope) int {
	switch n.Kind {
	case api.NBlock:
		return m.block(n, in)
	case api.NVar:
		of := m.written(n.Kids[0])
		if n.Kids[1].Kind != api.NNone {
			m.put(n.Kids[1], of, in)
		}
		m.let(n, of, in)
	case api.NDefine:
		stopAt(n, api.ErrPlace, n.Kids[0].Kind != api.NName)
		of := m.expr(n.Kids[1], in)
		stopAt(n.Kids[1], api.ErrType, of == "" || of == "nil")
		m.let(n.Kids[0], of, in)
	case api.NAssign:
		left := n.Kids[0]
		of := m.expr(left, in)
		isElem := left.Kind == api.NAt && m.expr(left.Kids[0], in) != "string"
		stopAt(n, api.ErrPlace, left.Kind != api.NName && left.Kind != api.NSelect && !isElem)
		m.put(n.Kids[1], of, in)
	case api.NIf, api.NFor:
		return m.branching(n, in)
	case api.NBreak, api.NContinue:
		stopAt(n, api.ErrPlace, m.loops == 0)
		if n.Kind == api.NBreak {
			return broken
		}
	case api.NReturn:
		m.leave(n, in)
		return returned
	case api.NExpr:
		stopAt(n, api.ErrPlace, n.Kids[0].Kind != api.NCall && n.Kids[0].Kind != api.NInvoke)
		m.expr(n.Kids[0], in)
	case api.NPrint:
		of := m.expr(n.Kids[0], in)
		stopAt(n.Kids[0], api.ErrType, of != "int" && of != "bool" && of != "string")
	}
	return goesOn
}

func (m *model) branching(n api.Node, in *scope) int {
	if n.Kids[0].Kind != api.NNone {
		stopAt(n.Kids[0], api.ErrType, m.expr(n.Kids[0], in) != "bool")
	}
	if n.Kind == api.NFor {
		m.loops++
		how := m.block(n.Kids[1], in)
		m.loops--
		if n.Kids[0].Kind == api.NNone && how != broken {
			return returned
		}
		return goesOn
	}
	then, other := m.block(n.Kids[1], in), goesOn
	if n.Kids[2].Kind != api.NNone {
		other = m.stmt(n.Kids[2], in)
	}
	switch {
	case then == broken || other == broken:
		return broken
	case then == returned && other == returned:
		return returned
	}
	return goesOn
}

func (m *model) leave(n api.Node, in *scope) {
	value := n.Kids[0]
	if value.Kind == api.NNone {
		stopAt(n, api.ErrType, m.result != "")
		return
	}
	of := m.expr(value, in)
	stopAt(value, api.ErrType, m.result == "" || !m.fits(of, m.result))
}

// put fails unless the value n may stand where a type is required.
func (m *model) put(n api.Node, of string, in *scope) {
	stopAt(n, api.ErrType, !m.fits(m.expr(n, in), of))
}

func (m *model) isStruct(s string) bool {
	return m.decls[s] != nil && !m.decls[s].face
}

func (m *model) isFace(s string) bool {
	return m.decls[s] != nil && m.decls[s].face
}

func isList(s string) bool {
	return strings.HasPrefix(s, "[]")
}

func (m *model) has(s, f string) bool {
	if !m.isStruct(s) || !m.isFace(f) {
		return false
	}
	for name, asked := range m.decls[f].methods {
		got, ok := m.decls[s].methods[name]
		if !ok || got.result != asked.result || !slices.Equal(got.params, asked.params) {
			return false
		}
	}
	return true
}

func (m *model) fits(from, to string) bool {
	switch from {
	case "":
		return false
	case "nil":
		return isList(to) || m.decls[to] != nil
	}
	return from == to || m.has(from, to)
}
