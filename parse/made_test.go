package parse_test

import (
	"slices"
	"strconv"
	"strings"
	"testing"

	"turnstone/api"
	"turnstone/parse"
	"turnstone/token"
)

// maker writes a text, and puts its tree together beside it, by numbers that follow a fixed rule.
type maker struct {
	number    uint64
	text      strings.Builder
	line, col int
	last      string // the last token
	spaced    bool   // whether the next token stands here
	left      int    // how much may still be made in this function
}

func newMaker(seed int) *maker {
	return &maker{number: uint64(seed) * 7919, line: 1, col: 1}
}

// pick is a number below n.
func (m *maker) pick(n int) int {
	m.number = m.number*6364136223846793005 + 1442695040888963407
	return int(m.number >> 33 % uint64(n))
}

func (m *maker) one(l ...string) string {
	return l[m.pick(len(l))]
}

func (m *maker) write(s string) {
	m.text.WriteString(s)
	for _, b := range []byte(s) {
		m.col++
		if b == '\n' {
			m.line, m.col = m.line+1, 1
		}
	}
}

// maySemi reports whether a line that ends behind the last token ends with a Semi.
func (m *maker) maySemi() bool {
	l, _, _ := token.All(m.last)
	return len(l) == 3
}

// gap writes what is ignored before the token s.
func (m *maker) gap(s string) {
	const alone = "()[]{},;"
	if m.pick(3) == 0 && (m.last == "" || strings.Contains(alone, m.last) || strings.Contains(alone, s)) {
		return
	}
	m.space()
}

func (m *maker) space() {
	m.write(m.one(" ", " ", "\t", " \r ", "  "))
	if !m.maySemi() && m.pick(6) == 0 {
		m.write(m.one("\n", "// a )\n", "\n\n\t", "//\n \n"))
	}
}

// before returns a node of this kind at the place of the token that is put next.
func (m *maker) before(kind int) api.Node {
	m.space()
	m.spaced = true
	return api.Node{Kind: kind, Line: m.line, Col: m.col}
}

// put writes the token s, and returns a node of this kind at its place.
func (m *maker) put(kind int, s string) api.Node {
	if !m.spaced {
		m.gap(s)
	}
	m.spaced = false
	n := api.Node{Kind: kind, Line: m.line, Col: m.col}
	m.write(s)
	m.last = s
	return n
}

func (m *maker) puts(l ...string) {
	for _, s := range l {
		m.put(0, s)
	}
}

// named writes a name, and returns a node of this kind with it.
func (m *maker) named(kind int) api.Node {
	s := m.one("a", "b", "c1", "_", "lens", "iff")
	n := m.put(kind, s)
	n.Name = s
	return n
}

// semi writes at least one Semi.
func (m *maker) semi() {
	if m.maySemi() && m.pick(2) == 0 {
		m.write(m.one("\n", " // a\n", "\r\n"))
		m.last = ";"
	} else {
		m.puts(";")
	}
	m.semis()
}

// semis writes some Semis, or none.
func (m *maker) semis() {
	for m.pick(4) == 0 {
		m.puts(";")
	}
}

// many makes some parts, or none, with what stands between two of them.
func (m *maker) many(most int, between func(), make func() api.Node) []api.Node {
	var l []api.Node
	for range m.pick(most + 1) {
		if len(l) > 0 {
			between()
		}
		l = append(l, make())
	}
	return l
}

func (m *maker) comma() {
	m.puts(",")
}

// lines makes parts between braces.
func (m *maker) lines(most int, make func() api.Node) []api.Node {
	m.puts("{")
	m.semis()
	l := m.many(most, m.semi, make)
	if len(l) > 0 && m.pick(2) == 0 {
		m.semi()
	}
	m.puts("}")
	return l
}

// listed makes parts between parentheses.
func (m *maker) listed(make func() api.Node) []api.Node {
	m.puts("(")
	l := m.many(3, m.comma, make)
	m.puts(")")
	return l
}

// maybe makes a part, or nothing.
func (m *maker) maybe(make func() api.Node) api.Node {
	if m.pick(2) == 0 {
		return api.Node{Kind: api.NNone}
	}
	return make()
}

func (m *maker) file() api.Node {
	var n api.Node
	if m.pick(3) == 0 {
		n = m.put(api.NFile, ";")
		m.semis()
	}
	l := m.many(4, m.semi, m.decl)
	if len(l) > 0 {
		m.semi()
	}
	if n.Kind == 0 && len(l) > 0 {
		n = api.Node{Kind: api.NFile, Line: l[0].Line, Col: l[0].Col}
	} else if n.Kind == 0 {
		n = m.before(api.NFile)
	}
	n.Kids = l
	return n
}

func (m *maker) decl() api.Node {
	switch m.pick(6) {
	case 0:
		n := m.put(api.NStruct, "type")
		n.Name = m.named(0).Name
		m.puts("struct")
		n.Kids = m.lines(3, m.field)
		return n
	case 1:
		n := m.put(api.NFace, "type")
		n.Name = m.named(0).Name
		m.puts("interface")
		n.Kids = m.lines(3, m.method)
		return n
	}
	return m.function()
}

func (m *maker) field() api.Node {
	n := m.named(api.NField)
	n.Kids = []api.Node{m.aType()}
	return n
}

func (m *maker) param() api.Node {
	n := m.named(api.NParam)
	n.Kids = []api.Node{m.aType()}
	return n
}

func (m *maker) method() api.Node {
	n := m.named(api.NMethod)
	l := m.listed(m.aType)
	n.Kids = append([]api.Node{m.maybe(m.aType)}, l...)
	return n
}

func (m *maker) receiver() api.Node {
	m.puts("(")
	n := m.named(api.NParam)
	n.Kids = []api.Node{m.named(api.NTypeName)}
	m.puts(")")
	return n
}

func (m *maker) function() api.Node {
	n := m.put(api.NFunc, "func")
	receiver := m.maybe(m.receiver)
	n.Name = m.named(0).Name
	params := m.listed(m.param)
	result := m.maybe(m.aType)
	m.left = 80
	n.Kids = append([]api.Node{receiver, result, m.block()}, params...)
	return n
}

func (m *maker) aType() api.Node {
	switch m.pick(5) {
	case 0:
		n := m.put(api.NSliceOf, "[")
		m.puts("]")
		n.Kids = []api.Node{m.aType()}
		return n
	case 1, 2:
		return m.named(api.NTypeName)
	}
	s := m.one("int", "bool", "string")
	n := m.put(api.NTypeName, s)
	n.Name = s
	return n
}

func (m *maker) block() api.Node {
	n := m.before(api.NBlock)
	n.Kids = m.lines(3, m.stmt)
	return n
}

// few tells whether only what has no parts is made from now on.
func (m *maker) few() bool {
	m.left--
	return m.left < 0
}

func (m *maker) stmt() api.Node {
	if m.few() {
		return m.put(api.NBreak, "break")
	}
	switch m.pick(12) {
	case 0:
		return m.block()
	case 1:
		return m.variable()
	case 2:
		return m.choice()
	case 3:
		n := m.put(api.NFor, "for")
		asked := m.maybe(m.expr)
		n.Kids = []api.Node{asked, m.block()}
		return n
	case 4:
		return m.put(api.NBreak, "break")
	case 5:
		return m.put(api.NContinue, "continue")
	case 6:
		n := m.put(api.NReturn, "return")
		n.Kids = []api.Node{m.maybe(m.expr)}
		return n
	case 7:
		return m.built(api.NPrint, "print", m.expr)
	case 8:
		return m.set(":=", api.NDefine)
	case 9:
		return m.set("=", api.NAssign)
	}
	n := m.before(api.NExpr)
	n.Kids = []api.Node{m.expr()}
	return n
}

func (m *maker) variable() api.Node {
	n := m.put(api.NVar, "var")
	n.Name = m.named(0).Name
	of := m.aType()
	value := m.maybe(func() api.Node {
		m.puts("=")
		return m.expr()
	})
	n.Kids = []api.Node{of, value}
	return n
}

func (m *maker) choice() api.Node {
	n := m.put(api.NIf, "if")
	asked := m.expr()
	then := m.block()
	other := m.maybe(func() api.Node {
		m.puts("else")
		if m.pick(2) == 0 {
			return m.choice()
		}
		return m.block()
	})
	n.Kids = []api.Node{asked, then, other}
	return n
}

// set makes two Exprs with a sign between, at which the node stands.
func (m *maker) set(sign string, kind int) api.Node {
	left := m.expr()
	n := m.put(kind, sign)
	n.Kids = []api.Node{left, m.expr()}
	return n
}

func (m *maker) expr() api.Node {
	return m.joined(0)
}

// joined makes parts that are joined by the signs of that row of tight, each part by tighter ones.
func (m *maker) joined(row int) api.Node {
	if row == len(tight) {
		return m.unary()
	}
	left := m.joined(row + 1)
	for m.pick(8) == 0 && !m.few() {
		sign := m.one(tight[row]...)
		n := m.put(api.NBinary, sign)
		n.Name = sign
		n.Kids = []api.Node{left, m.joined(row + 1)}
		left = n
	}
	return left
}

func (m *maker) unary() api.Node {
	if m.pick(6) != 0 {
		return m.post()
	}
	sign := m.one("-", "!")
	n := m.put(api.NUnary, sign)
	n.Name = sign
	n.Kids = []api.Node{m.unary()}
	return n
}

func (m *maker) post() api.Node {
	x := m.prime()
	for m.pick(3) == 0 && !m.few() {
		x = m.behind(x)
	}
	return x
}

func (m *maker) behind(x api.Node) api.Node {
	if m.pick(4) == 0 {
		n := m.put(api.NAt, "[")
		n.Kids = []api.Node{x, m.expr()}
		m.puts("]")
		return n
	}
	n := m.put(api.NSelect, ".")
	n.Kids = []api.Node{x}
	switch m.pick(3) {
	case 0:
		n.Kind = api.NCast
		m.puts("(")
		n.Kids = append(n.Kids, m.aType())
		m.puts(")")
	case 1:
		n.Kind = api.NInvoke
		n.Name = m.named(0).Name
		n.Kids = append(n.Kids, m.listed(m.expr)...)
	default:
		n.Name = m.named(0).Name
	}
	return n
}

func (m *maker) prime() api.Node {
	if m.few() {
		return m.leaf()
	}
	switch m.pick(9) {
	case 0:
		n := m.named(api.NCall)
		n.Kids = m.listed(m.expr)
		return n
	case 1:
		m.puts("(")
		n := m.expr()
		m.puts(")")
		return n
	case 2:
		return m.built(api.NLen, "len", m.expr)
	case 3:
		return m.built(api.NMake, "make", m.aType, m.expr)
	case 4:
		return m.built(api.NNew, "new", m.aType)
	case 5:
		return m.built(api.NInput, "input")
	}
	return m.leaf()
}

// built makes a Word and its parts between parentheses.
func (m *maker) built(kind int, word string, parts ...func() api.Node) api.Node {
	n := m.put(kind, word)
	m.puts("(")
	for i, make := range parts {
		if i > 0 {
			m.comma()
		}
		n.Kids = append(n.Kids, make())
	}
	m.puts(")")
	return n
}

func (m *maker) leaf() api.Node {
	switch m.pick(7) {
	case 0:
		n := m.put(api.NInt, m.one("0", "42", "0042", "9223372036854775807"))
		n.N, _ = strconv.ParseInt(m.last, 10, 64)
		return n
	case 1:
		n := m.put(api.NText, m.one(`""`, `"a"`, `"\n\\"`, `"}"`, `"\";"`))
		n.Name, _ = strconv.Unquote(m.last)
		return n
	case 2:
		return m.put(api.NTrue, "true")
	case 3:
		return m.put(api.NFalse, "false")
	case 4:
		return m.put(api.NNil, "nil")
	}
	return m.named(api.NName)
}

// TestMade (4.1): texts that are put together by a fixed rule have the trees, with the places, that were put together with them.
func TestMade(t *testing.T) {
	kinds := map[int]int{}
	for seed := range 400 {
		m := newMaker(seed)
		want := m.file()
		s := m.text.String()
		l, _, e := token.All(s)
		if e == api.ErrLong {
			continue
		}
		n := tree(t, s)
		if told(n) != told(want) || placed(n) != placed(want) {
			t.Errorf("4.1: %q: %s %s, not %s %s", s, told(n), placed(n), told(want), placed(want))
		}
		count(want, kinds)
		if seed%8 == 0 {
			wantChanged(t, m, l)
		}
	}
	for k := api.NFile; k <= api.NNone; k++ {
		if kinds[k] < 20 {
			t.Errorf("only %d nodes of the kind %d were made", kinds[k], k)
		}
	}
}

// count counts the kinds of the nodes of n.
func count(n api.Node, kinds map[int]int) {
	kinds[n.Kind]++
	for _, k := range n.Kids {
		count(k, kinds)
	}
}

// wantChanged fails the test if the tokens of l, with one of them taken away, doubled or turned into another, are not read as the grammar says.
func wantChanged(t *testing.T, m *maker, l []token.Token) {
	t.Helper()
	var words []string
	for _, k := range l[:len(l)-1] {
		words = append(words, spelled(k))
	}
	for range min(len(words), 20) {
		i := m.pick(len(words))
		changed := slices.Clone(words)
		switch m.pick(4) {
		case 0:
			changed = slices.Delete(changed, i, i+1)
		case 1:
			changed = slices.Insert(changed, i, words[m.pick(len(words))])
		case 2:
			changed[i] = words[m.pick(len(words))]
		default:
			changed[i] = m.one(strings.Fields(someTokens)...)
		}
		s := strings.Join(changed, " ")
		all, _, e := token.All(s)
		if e != api.OK {
			t.Fatalf("%q: %d", s, e)
		}
		wantByGrammar(t, newReader(), s, all)
	}
}

// spelled is a text with the token k.
func spelled(k token.Token) string {
	if k.Kind == token.Text {
		return strconv.Quote(k.Text)
	}
	return k.Text
}

// TestSoups (4.1): tokens in any order are read as the grammar says; so are any bytes (R1), twice in the same way (R4).
func TestSoups(t *testing.T) {
	m := newMaker(1)
	for range 1000 {
		s := m.one("", "func f() { ", "type P struct { ", "func f() { x = ", "func ( ")
		for range m.pick(12) {
			s += m.one(strings.Fields(someTokens)...) + " "
		}
		l, _, e := token.All(s)
		if e != api.OK {
			t.Fatalf("%q: %d", s, e)
		}
		wantByGrammar(t, newReader(), s, l)
	}
	for range 1000 {
		b := make([]byte, m.pick(60))
		for i := range b {
			b[i] = byte(m.pick(256))
		}
		s := "func f() { " + string(b)
		n, place, e := parse.Parse(s)
		again, secondPlace, second := parse.Parse(s)
		if e != second || place != secondPlace || told(n) != told(again) {
			t.Errorf("R4: %q: error %d at %v, then %d at %v", s, e, place, second, secondPlace)
		}
	}
}
