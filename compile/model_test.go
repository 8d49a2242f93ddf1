package compile_test

import (
	"fmt"
	"slices"
	"strconv"
	"strings"
	"testing"

	"turnstone/api"
	"turnstone/check"
	"turnstone/compile"
	"turnstone/kinds"
	"turnstone/parse"
)

// callee is a function or a method as a model knows it; its number is that of its function.
type callee struct {
	number int
	params []string
	result string
}

// slot is a local as a model knows it.
type slot struct {
	number int
	of     string
}

// model writes code in another way: as lines in which labels, constants and types stand by name, until all of them are numbered at the end.
type model struct {
	types  []api.Type
	faces  map[string]int
	fields map[string]slot // by P.x
	calls  map[string]callee
	scopes []map[string]slot
	locals []string
	result string
	labels int
	loops  [][2]string
	nums   []int64
	texts  []string
}

func written(n api.Node) string {
	switch n.Kind {
	case api.NSliceOf:
		return "[]" + written(n.Kids[0])
	case api.NTypeName:
		return n.Name
	}
	return ""
}

func newModel(n api.Node, types []api.Type) *model {
	m := &model{types: types, faces: map[string]int{}, fields: map[string]slot{}, calls: map[string]callee{}}
	funcs := 0
	for _, d := range n.Kids {
		switch d.Kind {
		case api.NStruct:
			for i, f := range d.Kids {
				m.fields[d.Name+"."+f.Name] = slot{i, written(f.Kids[0])}
			}
		case api.NFace:
			m.faces[d.Name] = 1
			for _, f := range d.Kids {
				c := callee{number: -1, result: written(f.Kids[0])}
				for _, p := range f.Kids[1:] {
					c.params = append(c.params, written(p))
				}
				m.calls[d.Name+"."+f.Name] = c
			}
		case api.NFunc:
			c := callee{number: funcs, result: written(d.Kids[1])}
			for _, p := range d.Kids[3:] {
				c.params = append(c.params, written(p.Kids[0]))
			}
			m.calls[funcName(d)] = c
			funcs++
		}
	}
	return m
}

func funcName(n api.Node) string {
	if n.Kids[0].Kind == api.NNone {
		return n.Name
	}
	return n.Kids[0].Kids[0].Name + "." + n.Name
}

// function tells all of an NFunc.
func (m *model) function(n api.Node) string {
	m.scopes, m.locals, m.loops, m.result = []map[string]slot{{}}, nil, nil, written(n.Kids[1])
	for _, p := range append([]api.Node{n.Kids[0]}, n.Kids[3:]...) {
		if p.Kind == api.NParam {
			m.let(p.Name, written(p.Kids[0]))
		}
	}
	params := m.numbers(m.locals)
	lines := m.stmt(n.Kids[2])
	if m.result == "" {
		lines = append(lines, "Ret 0")
	} else {
		lines = append(lines, "@end:", "Jump @end")
	}
	return fmt.Sprint(funcName(n), " ", params, " ", m.number(m.result), " ", m.numbers(m.locals), ": ", strings.Join(m.assemble(lines), ", "))
}

func (m *model) number(of string) int {
	for i := range m.types {
		if kinds.Name(m.types, i) == of {
			return i
		}
	}
	return -1
}

func (m *model) numbers(l []string) []int {
	out := []int{}
	for _, of := range l {
		out = append(out, m.number(of))
	}
	return out
}

// assemble numbers what stands by name: @ a label, # a number, a quote a text, ~ a type.
func (m *model) assemble(lines []string) []string {
	places, pc := map[string]int{}, 0
	for _, s := range lines {
		if name, ok := strings.CutSuffix(s, ":"); ok && s[0] == '@' {
			places[name] = pc
			continue
		}
		pc++
	}
	var out []string
	for _, s := range lines {
		if s[0] == '@' {
			continue
		}
		op, rest, _ := strings.Cut(s, " ")
		switch {
		case strings.HasPrefix(rest, "@"):
			s = fmt.Sprint(op, " ", places[rest])
		case strings.HasPrefix(rest, "#"):
			v, _ := strconv.ParseInt(rest[1:], 10, 64)
			s = fmt.Sprint(op, " ", intern(&m.nums, v))
		case strings.HasPrefix(rest, `"`):
			quoted, _ := strconv.QuotedPrefix(rest)
			text, _ := strconv.Unquote(quoted)
			s = fmt.Sprint(op, " ", intern(&m.texts, text), rest[len(quoted):])
		case strings.HasPrefix(rest, "~"):
			s = fmt.Sprint(op, " ", m.number(rest[1:]))
		}
		out = append(out, s)
	}
	return out
}

func intern[T comparable](l *[]T, v T) int {
	if i := slices.Index(*l, v); i >= 0 {
		return i
	}
	*l = append(*l, v)
	return len(*l) - 1
}

func (m *model) let(name, of string) string {
	m.scopes[len(m.scopes)-1][name] = slot{len(m.locals), of}
	m.locals = append(m.locals, of)
	return fmt.Sprint("Store ", len(m.locals)-1)
}

func (m *model) find(name string) slot {
	for i := len(m.scopes) - 1; ; i-- {
		if s, ok := m.scopes[i][name]; ok {
			return s
		}
	}
}

func (m *model) label() string {
	m.labels++
	return fmt.Sprint("@", m.labels)
}

// put makes the code of a value where a type is required.
func (m *model) put(n api.Node, of string) []string {
	l, _ := m.expr(n)
	if n.Kind == api.NNil {
		return []string{"Null ~" + of}
	}
	return l
}

func (m *model) stmt(n api.Node) []string {
	switch n.Kind {
	case api.NBlock:
		m.scopes = append(m.scopes, map[string]slot{})
		var l []string
		for _, k := range n.Kids {
			l = append(l, m.stmt(k)...)
		}
		m.scopes = m.scopes[:len(m.scopes)-1]
		return l
	case api.NVar:
		of := written(n.Kids[0])
		value := []string{"Null ~" + of}
		switch {
		case n.Kids[1].Kind != api.NNone:
			value = m.put(n.Kids[1], of)
		case of == "int":
			value = []string{"Num #0"}
		case of == "bool":
			value = []string{"Bit 0"}
		}
		return append(value, m.let(n.Name, of))
	case api.NDefine:
		value, of := m.expr(n.Kids[1])
		return append(value, m.let(n.Kids[0].Name, of))
	case api.NAssign:
		return m.assign(n.Kids[0], n.Kids[1])
	case api.NIf:
		return m.choice(n)
	case api.NFor:
		return m.loop(n)
	case api.NBreak:
		return []string{"Jump " + m.loops[len(m.loops)-1][1]}
	case api.NContinue:
		return []string{"Jump " + m.loops[len(m.loops)-1][0]}
	case api.NReturn:
		if n.Kids[0].Kind == api.NNone {
			return []string{"Ret 0"}
		}
		return append(m.put(n.Kids[0], m.result), "Ret 1")
	case api.NExpr:
		called, of := m.expr(n.Kids[0])
		if of != "" {
			called = append(called, "Pop")
		}
		return called
	}
	value, of := m.expr(n.Kids[0])
	return append(value, fmt.Sprint("Print ", slices.Index([]string{"int", "bool", "string"}, of)+1))
}

func (m *model) assign(left, right api.Node) []string {
	if left.Kind == api.NName {
		to := m.find(left.Name)
		return append(m.put(right, to.of), fmt.Sprint("Store ", to.number))
	}
	x, owner := m.expr(left.Kids[0])
	if left.Kind == api.NSelect {
		f := m.fields[owner+"."+left.Name]
		return slices.Concat(x, m.put(right, f.of), []string{fmt.Sprint("SetField ", f.number)})
	}
	i, _ := m.expr(left.Kids[1])
	return slices.Concat(x, i, m.put(right, owner[2:]), []string{"SetAt"})
}

func (m *model) choice(n api.Node) []string {
	a, b := m.label(), m.label()
	asked, _ := m.expr(n.Kids[0])
	then := m.stmt(n.Kids[1])
	if n.Kids[2].Kind == api.NNone {
		return slices.Concat(asked, []string{"JumpNo " + a}, then, []string{a + ":"})
	}
	other := m.stmt(n.Kids[2])
	return slices.Concat(asked, []string{"JumpNo " + a}, then, []string{"Jump " + b, a + ":"}, other, []string{b + ":"})
}

func (m *model) loop(n api.Node) []string {
	a, b := m.label(), m.label()
	var asked []string
	if n.Kids[0].Kind != api.NNone {
		asked, _ = m.expr(n.Kids[0])
		asked = append(asked, "JumpNo "+b)
	}
	m.loops = append(m.loops, [2]string{a, b})
	inner := m.stmt(n.Kids[1])
	m.loops = m.loops[:len(m.loops)-1]
	return slices.Concat([]string{a + ":"}, asked, inner, []string{"Jump " + a, b + ":"})
}

// expr makes the code of an expression, and tells its type; that of a nil is nil.
func (m *model) expr(n api.Node) ([]string, string) {
	switch n.Kind {
	case api.NInt:
		return []string{fmt.Sprint("Num #", n.N)}, "int"
	case api.NTrue:
		return []string{"Bit 1"}, "bool"
	case api.NFalse:
		return []string{"Bit 0"}, "bool"
	case api.NText:
		return []string{"Lit " + strconv.Quote(n.Name)}, "string"
	case api.NNil:
		return nil, "nil"
	case api.NInput:
		return []string{"Input"}, "int"
	case api.NName:
		v := m.find(n.Name)
		return []string{fmt.Sprint("Load ", v.number)}, v.of
	case api.NNew:
		return []string{"New ~" + written(n.Kids[0])}, written(n.Kids[0])
	case api.NMake:
		size, _ := m.expr(n.Kids[1])
		return append(size, "Make ~"+written(n.Kids[0])), written(n.Kids[0])
	case api.NBinary:
		return m.binary(n)
	case api.NCall:
		c := m.calls[n.Name]
		return append(m.given(n.Kids, c), fmt.Sprint("Call ", c.number, " ", len(n.Kids))), c.result
	}
	x, of := m.expr(n.Kids[0])
	switch n.Kind {
	case api.NLen:
		return append(x, "Len"), "int"
	case api.NCast:
		return append(x, "Cast ~"+written(n.Kids[1])), written(n.Kids[1])
	case api.NSelect:
		f := m.fields[of+"."+n.Name]
		return append(x, fmt.Sprint("Field ", f.number)), f.of
	case api.NUnary:
		return append(x, map[string]string{"-": "Neg", "!": "Not"}[n.Name]), of
	case api.NAt:
		i, _ := m.expr(n.Kids[1])
		if of == "string" {
			return slices.Concat(x, i, []string{"TextAt"}), "int"
		}
		return slices.Concat(x, i, []string{"At"}), of[2:]
	}
	c := m.calls[of+"."+n.Name]
	x = append(x, m.given(n.Kids[1:], c)...)
	if m.faces[of] == 1 {
		return append(x, fmt.Sprintf("Invoke %q %d", n.Name, len(n.Kids))), c.result
	}
	return append(x, fmt.Sprint("Call ", c.number, " ", len(n.Kids))), c.result
}

func (m *model) given(args []api.Node, c callee) []string {
	var l []string
	for i, a := range args {
		l = append(l, m.put(a, c.params[i])...)
	}
	return l
}

func (m *model) binary(n api.Node) ([]string, string) {
	l, left := m.expr(n.Kids[0])
	r, right := m.expr(n.Kids[1])
	a, b := m.label(), m.label()
	switch n.Name {
	case "&&":
		return slices.Concat(l, []string{"JumpNo " + a}, r, []string{"Jump " + b, a + ":", "Bit 0", b + ":"}), "bool"
	case "||":
		return slices.Concat(l, []string{"JumpNo " + a, "Bit 1", "Jump " + b, a + ":"}, r, []string{b + ":"}), "bool"
	}
	if left == "nil" {
		l = []string{"Null ~" + right}
	}
	if right == "nil" {
		r = []string{"Null ~" + left}
	}
	table := "+ Add - Sub * Mul / Div % Rem == Eq != Ne < Lt <= Le > Gt >= Ge"
	if left == "string" {
		table = "+ Cat == TextEq != TextNe < TextLt <= TextLe > TextLt >= TextLe"
		if n.Name[0] == '>' {
			l, r = r, l
		}
	}
	words := strings.Fields(table)
	i := slices.Index(words, n.Name)
	of := "bool"
	if strings.Contains("+-*/%", n.Name) {
		of = left
	}
	return slices.Concat(l, r, []string{words[i+1]}), of
}

// TestMadeTexts (8.1 to 8.4): the programs of made texts are those of a model, and sound.
func TestMadeTexts(t *testing.T) {
	m := &maker{stir: 8}
	programs, seen := 0, map[string]int{}
	for range 1500 {
		s := m.text()
		p, at, e := compile.Text(s)
		if e == api.ErrLong || e == api.ErrDeep || e == api.ErrCount {
			continue
		}
		if e != api.OK {
			t.Fatalf("8.1: %d at %v of\n%s", e, at, s)
		}
		programs++
		n, _, _ := parse.Parse(s)
		info, _, _ := check.Check(n)
		held := newModel(n, info.Types)
		funcs := 0
		for _, d := range n.Kids {
			if d.Kind != api.NFunc {
				continue
			}
			f := p.Funcs[funcs]
			funcs++
			got := fmt.Sprint(f.Name, " ", f.Params, " ", f.Result, " ", f.Locals, ": ", line(f))
			if want := held.function(d); got != want {
				t.Fatalf("8.2: function %d is\n%s, not\n%s, of\n%s", funcs-1, got, want, s)
			}
			for _, in := range strings.Split(line(f), ", ") {
				op, _, _ := strings.Cut(in, " ")
				seen[op]++
			}
		}
		if !slices.Equal(p.Nums, held.nums) || !slices.Equal(p.Texts, held.texts) || len(p.Funcs) != funcs || p.Main != info.Main {
			t.Fatalf("8.1: %v, %q, not %v, %q, of\n%s", p.Nums, p.Texts, held.nums, held.texts, s)
		}
		wantSound(t, p)
	}
	if programs < 1400 || len(seen) != 41 {
		t.Errorf("only %d programs with %d ops were made", programs, len(seen))
	}
	t.Log(programs, seen)
}
