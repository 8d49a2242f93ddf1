package check_test

import (
	"strings"

	"turnstone/api"
)

// expr returns the type of an expression as it is written, or nothing for what has none.
func (m *model) expr(n api.Node, in *scope) string {
	switch n.Kind {
	case api.NName:
		of, ok := in.of(n.Name)
		stopAt(n, api.ErrName, !ok)
		return of
	case api.NNew, api.NMake:
		return m.built(n, in)
	case api.NCast:
		from := m.expr(n.Kids[0], in)
		to := m.written(n.Kids[1])
		stopAt(n, api.ErrType, !m.has(to, from))
		return to
	}
	var parts []string
	for _, k := range n.Kids {
		parts = append(parts, m.expr(k, in))
	}
	switch n.Kind {
	case api.NCall:
		f, ok := m.funcs[n.Name]
		stopAt(n, api.ErrName, !ok)
		return m.called(n, n.Kids, parts, f)
	case api.NInvoke:
		d := m.decls[parts[0]]
		stopAt(n, api.ErrType, d == nil)
		f, ok := d.methods[n.Name]
		stopAt(n, api.ErrName, !ok)
		return m.called(n, n.Kids[1:], parts[1:], f)
	case api.NSelect:
		stopAt(n, api.ErrType, !m.isStruct(parts[0]))
		of, ok := m.decls[parts[0]].fields[n.Name]
		stopAt(n, api.ErrName, !ok)
		return of
	}
	of, ok := m.plain(n, parts)
	stopAt(n, api.ErrType, !ok)
	return of
}

func (m *model) built(n api.Node, in *scope) string {
	of := m.written(n.Kids[0])
	if n.Kind == api.NNew {
		stopAt(n, api.ErrType, !m.isStruct(of))
		return of
	}
	size := m.expr(n.Kids[1], in)
	stopAt(n, api.ErrType, !isList(of) || size != "int")
	return of
}

func (m *model) called(n api.Node, args []api.Node, given []string, f modelSig) string {
	stopAt(n, api.ErrCount, len(given) != len(f.params))
	for i := range given {
		stopAt(args[i], api.ErrType, !m.fits(given[i], f.params[i]))
	}
	return f.result
}

// plain looks up an expression of plain types by its sign and the types of its parts.
func (m *model) plain(n api.Node, parts []string) (string, bool) {
	sign := n.Name
	switch n.Kind {
	case api.NInt, api.NInput:
		return "int", true
	case api.NTrue, api.NFalse:
		return "bool", true
	case api.NText:
		return "string", true
	case api.NNil:
		return "nil", true
	case api.NLen:
		return "int", parts[0] == "string" || isList(parts[0])
	case api.NAt:
		if parts[0] == "string" {
			return "int", parts[1] == "int"
		}
		return strings.TrimPrefix(parts[0], "[]"), isList(parts[0]) && parts[1] == "int"
	case api.NUnary:
		return parts[0], sign+parts[0] == "-int" || sign+parts[0] == "!bool"
	}
	left, right := parts[0], parts[1]
	if sign == "==" || sign == "!=" {
		same := left == right && left != "" && left != "nil" && !isList(left)
		return "bool", same || left != right && (m.fits(left, right) || m.fits(right, left))
	}
	of := ""
	switch left + " " + right {
	case "int int":
		of = "+int -int *int /int %int <bool <=bool >bool >=bool "
	case "string string":
		of = "+string <bool <=bool >bool >=bool "
	case "bool bool":
		of = "&&bool ||bool "
	}
	for _, s := range []string{"int", "bool", "string"} {
		if strings.Contains(" "+of, " "+sign+s+" ") {
			return s, true
		}
	}
	return "", false
}
