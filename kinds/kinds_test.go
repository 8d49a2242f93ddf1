package kinds_test

import (
	"math"
	"strings"
	"testing"

	"turnstone/api"
	"turnstone/kinds"
)

// The types of world, beside those of Base.
const (
	point  = 5 + iota // a struct with fields and methods
	points            // []Point
	mover             // asks for Point's first method
	both              // asks for both of Point's methods
	other             // asks for a method that Point has with another parameter
	anyone            // asks for nothing
	empty             // a struct of nothing
	nested            // [][]Point
)

// noNumbers are numbers that are no index of world's list.
var noNumbers = []int{-1, nested + 1, nested + 2, 1 << 31, math.MinInt, math.MaxInt}

// world is a list that is Right; every call makes a new one, so that a test may turn it.
func world() []api.Type {
	return append(kinds.Base(),
		api.Type{Kind: api.Struct, Name: "Point",
			Fields: []api.Field{{Name: "x", Type: api.Int}, {Name: "next", Type: point}, {Name: "all", Type: nested}},
			Methods: []api.Method{
				{Name: "move", Params: []int{api.Int, points}, Result: api.Bool, Func: 3},
				{Name: "stop", Func: 0},
			}},
		api.Type{Kind: api.Slice, Elem: point},
		api.Type{Kind: api.Face, Name: "Mover",
			Methods: []api.Method{{Name: "move", Params: []int{api.Int, points}, Result: api.Bool, Func: -1}}},
		api.Type{Kind: api.Face, Name: "Both",
			Methods: []api.Method{
				{Name: "stop", Func: -1},
				{Name: "move", Params: []int{api.Int, points}, Result: api.Bool, Func: -1},
			}},
		api.Type{Kind: api.Face, Name: "Other",
			Methods: []api.Method{{Name: "stop", Params: []int{api.Int}, Func: -1}}},
		api.Type{Kind: api.Face, Name: "Anyone"},
		api.Type{Kind: api.Struct, Name: "Empty"},
		api.Type{Kind: api.Slice, Elem: points},
	)
}

// TestBase (2.1): numbers and names of the first five types; all else is zero.
func TestBase(t *testing.T) {
	names := []string{"", "int", "bool", "string", "nil"}
	l := kinds.Base()
	if len(l) != len(names) {
		t.Fatalf("2.1: %d types", len(l))
	}
	for i, b := range l {
		if b.Kind != i || b.Name != names[i] || b.Elem != 0 || len(b.Fields) != 0 || len(b.Methods) != 0 {
			t.Errorf("2.1: type %d is %v", i, b)
		}
	}
}

// TestBaseIsTheCallersOwn (2.1, R2): what is done to one answer shows in no other, in its spare capacity neither.
func TestBaseIsTheCallersOwn(t *testing.T) {
	l, k := kinds.Base(), kinds.Base()
	for i := range l {
		l[i].Fields = append(l[i].Fields, api.Field{Name: "f"})
		l[i].Methods = append(l[i].Methods, api.Method{Name: "m"})
		l[i].Kind, l[i].Name, l[i].Elem = 9, "turned", 9
	}
	spare := l[:cap(l)]
	for i := range spare {
		spare[i].Name = "turned"
	}
	for _, b := range [][]api.Type{k, kinds.Base()} {
		for i, name := range []string{"", "int", "bool", "string", "nil"} {
			if !kinds.Same(b[i], api.Type{Kind: i, Name: name}) {
				t.Errorf("2.1: type %d became %v", i, b[i])
			}
		}
		for _, s := range b[len(b):cap(b)] {
			if s.Name == "turned" {
				t.Error("2.1: spare capacity is shared")
			}
		}
	}
	if !kinds.Right(kinds.Base()) {
		t.Error("2.2: Right hangs on what a caller did to Base")
	}
}

// TestName (2.1): a name as it stands, and a slice's by its elements'.
func TestName(t *testing.T) {
	l := world()
	want := []string{"", "int", "bool", "string", "nil", "Point", "[]Point", "Mover", "Both", "Other", "Anyone", "Empty", "[][]Point"}
	for i, name := range want {
		if s := kinds.Name(l, i); s != name {
			t.Errorf("2.1: Name of %d is %q, want %q", i, s, name)
		}
	}
	for _, i := range noNumbers {
		if s := kinds.Name(l, i); s != "" {
			t.Errorf("2.1: Name of %d is %q", i, s)
		}
	}
	if kinds.Name(nil, 0) != "" || kinds.Name(kinds.Base(), point) != "" {
		t.Error("2.1: a name out of nothing")
	}
}

// TestNameOfWrongTypes (2.1): names are told as they are stored, whatever else stands in the list.
func TestNameOfWrongTypes(t *testing.T) {
	l := append(kinds.Base(),
		api.Type{Kind: 99, Name: "a \x00\xff b"},
		api.Type{Kind: api.Slice, Name: "own", Elem: 5},
		api.Type{Kind: api.Slice, Elem: -1},
		api.Type{Kind: api.Slice, Elem: 60},
		api.Type{Kind: api.Slice, Elem: 0},
		api.Type{Kind: -1, Name: "x", Elem: 1},
		api.Type{Kind: api.Slice, Elem: 10},
	)
	for i, want := range []string{"a \x00\xff b", "[]a \x00\xff b", "[]", "[]", "[]", "x", "[]x"} {
		if s := kinds.Name(l, 5+i); s != want {
			t.Errorf("2.1: Name of %d is %q, want %q", 5+i, s, want)
		}
	}
}

// TestNameDepth (2.1): MaxNest brackets and a name; beyond, no name; and a slice of itself has an end.
func TestNameDepth(t *testing.T) {
	l := kinds.Base()
	for n := 1; n <= api.MaxNest+3; n++ {
		elem := len(l) - 1
		if n == 1 {
			elem = api.Bool
		}
		l = append(l, api.Type{Kind: api.Slice, Elem: elem})
		want := strings.Repeat("[]", min(n, api.MaxNest))
		if n <= api.MaxNest {
			want += "bool"
		}
		if s := kinds.Name(l, len(l)-1); s != want {
			t.Errorf("2.1: %d slices in one another: %q", n, s)
		}
	}
	self := append(kinds.Base(), api.Type{Kind: api.Slice, Name: "self", Elem: 5})
	ring := append(kinds.Base(), api.Type{Kind: api.Slice, Elem: 6}, api.Type{Kind: api.Slice, Elem: 5})
	for _, s := range []string{kinds.Name(self, 5), kinds.Name(ring, 5), kinds.Name(ring, 6)} {
		if s != strings.Repeat("[]", api.MaxNest) {
			t.Errorf("2.1: a ring's name is %q", s)
		}
	}
}

// TestField (2.1): a struct's alone.
func TestField(t *testing.T) {
	l := world()
	l[mover].Fields = l[point].Fields
	l[points].Fields = l[point].Fields
	l[api.Text].Fields = l[point].Fields
	for i, name := range []string{"x", "next", "all"} {
		if f, ok := kinds.Field(l, point, name); f != i || !ok {
			t.Errorf("2.1: field %s: %d %v", name, f, ok)
		}
		for _, n := range append([]int{api.Void, api.Int, api.Text, api.Nil, points, mover, anyone, empty, nested}, noNumbers...) {
			wantNoField(t, l, n, name)
		}
	}
	for _, name := range []string{"", "X", "nex", "nextt", "move", "stop"} {
		wantNoField(t, l, point, name)
	}
	wantNoField(t, nil, 0, "x")
}

func wantNoField(t *testing.T, l []api.Type, n int, name string) {
	t.Helper()
	if f, ok := kinds.Field(l, n, name); f != 0 || ok {
		t.Errorf("2.1: field %q of %d: %d %v", name, n, f, ok)
	}
}

// TestMethod (2.1): a struct's or an interface's.
func TestMethod(t *testing.T) {
	l := world()
	l[points].Methods = l[point].Methods
	l[api.Nil].Methods = l[point].Methods
	for _, c := range []struct {
		t    int
		name string
		want int
	}{{point, "move", 0}, {point, "stop", 1}, {mover, "move", 0}, {both, "move", 1}, {both, "stop", 0}, {other, "stop", 0}} {
		if m, ok := kinds.Method(l, c.t, c.name); m != c.want || !ok {
			t.Errorf("2.1: method %s of %d: %d %v", c.name, c.t, m, ok)
		}
	}
	for _, n := range append([]int{api.Void, api.Int, api.Nil, points, anyone, empty, nested}, noNumbers...) {
		wantNoMethod(t, l, n, "move")
	}
	for _, name := range []string{"", "Move", "mov", "mover", "x", "next"} {
		wantNoMethod(t, l, point, name)
		wantNoMethod(t, l, mover, name)
	}
	wantNoMethod(t, l, mover, "stop")
	wantNoMethod(t, nil, 0, "move")
}

func wantNoMethod(t *testing.T, l []api.Type, n int, name string) {
	t.Helper()
	if m, ok := kinds.Method(l, n, name); m != 0 || ok {
		t.Errorf("2.1: method %q of %d: %d %v", name, n, m, ok)
	}
}

// TestNamesThatOccurTwice (2.1): the first is told, and the empty name is one like others.
func TestNamesThatOccurTwice(t *testing.T) {
	l := append(kinds.Base(), api.Type{Kind: api.Struct, Name: "T",
		Fields:  []api.Field{{Name: "a"}, {Name: ""}, {Name: "b"}, {Name: "b"}},
		Methods: []api.Method{{Name: "a"}, {Name: "b"}, {Name: ""}, {Name: "b"}}})
	for name, want := range map[string][2]int{"a": {0, 0}, "": {1, 2}, "b": {2, 1}} {
		f, has := kinds.Field(l, 5, name)
		m, is := kinds.Method(l, 5, name)
		if f != want[0] || m != want[1] || !has || !is {
			t.Errorf("2.1: %q: field %d %v, method %d %v", name, f, has, m, is)
		}
	}
}

// TestExamples: those of the chapter.
func TestExamples(t *testing.T) {
	l := append(kinds.Base(),
		api.Type{Kind: api.Struct, Name: "P", Fields: []api.Field{{Name: "x", Type: api.Int}}},
		api.Type{Kind: api.Slice, Elem: 5})
	f, ok := kinds.Field(l, 5, "x")
	if kinds.Name(l, 6) != "[]P" || f != 0 || !ok || !kinds.Fits(l, 4, 6) || kinds.Fits(l, 4, 1) {
		t.Error("the chapter's examples")
	}
}
