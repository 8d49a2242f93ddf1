package check_test

import (
	"strings"
	"testing"

	"turnstone/api"
	"turnstone/check"
	"turnstone/kinds"
	"turnstone/parse"
)

// visible returns the names of the variables of a type that are known, the hidden ones left out.
func (m *maker) visible(of string) []string {
	var l []string
	seen := map[string]int{}
	for i := len(m.vars) - 1; i >= 0; i-- {
		v := m.vars[i]
		seen[v.name]++
		if v.of == of && seen[v.name] == 1 {
			l = append(l, v.name)
		}
	}
	return l
}

// place makes what may stand on the left of = for a type.
func (m *maker) place(of string) string {
	if l := m.visible(of); len(l) > 0 && m.below(3) > 0 {
		return m.of(l...)
	}
	if m.slips() {
		return m.of("1", "unknown", "\"\"[0]", "input()", "f()")
	}
	if m.below(3) > 0 {
		for _, owner := range []string{"A", "B", "C"} {
			for i := 0; i < len(m.fields[owner]); i += 2 {
				if m.fields[owner][i+1] == of {
					return m.typed(owner, 2) + "." + m.fields[owner][i]
				}
			}
		}
	}
	return m.typed("[]"+of, 2) + "[" + m.expr("int", 2) + "]"
}

// expr makes an expression that fits a type.
func (m *maker) expr(of string, room int) string {
	if m.slips() {
		return m.typed(m.of("int", "bool", "string", "A", "F", "[]int"), room)
	}
	switch {
	case of == "int" || of == "bool" || of == "string" || m.below(3) > 0:
		return m.typed(of, room)
	case strings.Contains("F G E", of) && m.below(2) == 0:
		return m.typed(m.fitting(of), room)
	}
	return "nil"
}

// fitting returns a struct that has the methods of an interface, or the interface itself.
func (m *maker) fitting(face string) string {
	for _, owner := range []string{"C", "B", "A"} {
		for _, c := range m.calls {
			if c.owner == owner && (face == "E" || len(m.faces[face]) > 0 && c.name == m.faces[face][0].name) && m.below(2) == 0 {
				return owner
			}
		}
	}
	return face
}

// typed makes an expression of exactly this type.
func (m *maker) typed(of string, room int) string {
	l := m.visible(of)
	if len(l) > 0 && (room <= 0 || m.below(2) == 0) {
		return m.of(l...)
	}
	if room > 0 && m.below(4) == 0 {
		if s := m.calling(of, room-1); s != "" {
			return s
		}
	}
	switch of {
	case "int":
		return m.number(room)
	case "bool":
		return m.truth(room)
	case "string":
		if room <= 0 {
			return "\"ab\""
		}
		return "(" + m.expr(of, room-1) + " + " + m.expr(of, room-1) + ")"
	case "A", "B", "C":
		if room > 0 && m.below(4) == 0 {
			if face := m.of("F", "G", "E"); m.fitting(face) == of {
				return m.typed(face, room-1) + ".(" + of + ")"
			}
		}
		return "new(" + of + ")"
	}
	if strings.HasPrefix(of, "[]") {
		return "make(" + of + ", " + m.expr("int", room-1) + ")"
	}
	// An interface has no expression that begins it but an element of a slice.
	return "make([]" + of + ", 1)[0]"
}

func (m *maker) number(room int) string {
	if room <= 0 {
		return m.of("0", "1", "7")
	}
	switch m.below(6) {
	case 0:
		return "-" + m.expr("int", room-1)
	case 1:
		return "(" + m.expr("int", room-1) + m.of(" + ", " - ", " * ", " / ", " % ") + m.expr("int", room-1) + ")"
	case 2:
		return "len(" + m.typed(m.of("string", "[]int", "[]A", "[][]int"), room-1) + ")"
	case 3:
		return m.typed(m.of("string", "[]int"), room-1) + "[" + m.expr("int", room-1) + "]"
	case 4:
		return "input()"
	}
	return "1"
}

func (m *maker) truth(room int) string {
	if room <= 0 {
		return m.of("true", "false")
	}
	switch m.below(6) {
	case 0:
		return "!" + m.expr("bool", room-1)
	case 1:
		return "(" + m.expr("bool", room-1) + m.of(" && ", " || ", " == ", " != ") + m.expr("bool", room-1) + ")"
	case 2:
		of := m.of("int", "string")
		return "(" + m.expr(of, room-1) + m.of(" < ", " <= ", " > ", " >= ", " == ", " != ") + m.expr(of, room-1) + ")"
	case 3:
		of := m.of("A", "F", "E")
		return "(" + m.typed(of, room-1) + m.of(" == ", " != ") + m.expr(of, room-1) + ")"
	case 4:
		of := m.of("A", "F", "[]int")
		return "(" + m.of("nil == "+m.typed(of, room-1), m.typed(of, room-1)+" != nil") + ")"
	}
	return "true"
}

// calling makes a call that gives a type, or any call for ?, or nothing.
func (m *maker) calling(of string, room int) string {
	first := m.below(len(m.calls))
	for i := range m.calls {
		c := m.calls[(first+i)%len(m.calls)]
		if of != "?" && c.result != of {
			continue
		}
		var args []string
		for _, p := range c.params {
			args = append(args, m.expr(p, room-1))
		}
		if m.slips() {
			args = append(args, "1")
		}
		s := m.named(c.name, "f", "unknown", "m") + "(" + strings.Join(args, ", ") + ")"
		if c.owner == "" {
			return s
		}
		owner := c.owner
		if c.name == "m" && m.below(2) == 0 {
			owner = "F"
		}
		return m.typed(owner, room-1) + "." + s
	}
	return ""
}

// TestMadeTexts (6.1 to 6.5): what Check answers of made texts is what a model answers; each error is met, and programs too.
func TestMadeTexts(t *testing.T) {
	seen := map[api.Errno]int{}
	for _, rare := range []int{60, 300, 1500} {
		m := &maker{stir: stir(rare), rare: rare}
		for range 3000 {
			s := m.text()
			n, _, e := parse.Parse(s)
			if e != api.OK {
				t.Fatalf("a made text is none: %q", s)
			}
			info, at, e := check.Check(n)
			want, wantAt, wantE := modelCheck(n)
			seen[e]++
			if e != wantE || at != wantAt {
				t.Fatalf("6.2: Check is %d at %v, not %d at %v, of\n%s", e, at, wantE, wantAt, s)
			}
			if e == api.OK && (toldOf(info) != want || !kinds.Right(info.Types)) {
				t.Fatalf("6.1: Check tells\n%s\nnot\n%s\nof\n%s", toldOf(info), want, s)
			}
		}
	}
	for _, e := range []api.Errno{api.OK, api.ErrName, api.ErrTwice, api.ErrType, api.ErrCount, api.ErrPlace, api.ErrEnd} {
		if seen[e] < 100 {
			t.Errorf("only %d made texts are answered with %d", seen[e], e)
		}
	}
	t.Log(seen)
}
