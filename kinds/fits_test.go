package kinds_test

import (
	"reflect"
	"slices"
	"testing"

	"turnstone/api"
	"turnstone/kinds"
)

// TestHas (2.3): every pair of world.
func TestHas(t *testing.T) {
	l := world()
	want := map[[2]int]int{{point, mover}: 1, {point, both}: 1, {point, anyone}: 1, {empty, anyone}: 1}
	for s := -2; s <= nested+2; s++ {
		for f := -2; f <= nested+2; f++ {
			if kinds.Has(l, s, f) != (want[[2]int{s, f}] == 1) {
				t.Errorf("2.3: Has(%d, %d) is %v", s, f, kinds.Has(l, s, f))
			}
		}
	}
	for _, n := range noNumbers {
		if kinds.Has(l, n, anyone) || kinds.Has(l, point, n) || kinds.Has(nil, n, n) {
			t.Errorf("2.3: Has with %d", n)
		}
	}
}

// TestHasComparesWholeMethods (2.3): name, parameters and result, but not what is behind them.
func TestHasComparesWholeMethods(t *testing.T) {
	for i, turn := range []func(m *api.Method){
		func(m *api.Method) { m.Name = "Move" },
		func(m *api.Method) { m.Params = m.Params[:1] },
		func(m *api.Method) { m.Params = append(m.Params, api.Int) },
		func(m *api.Method) { m.Params = nil },
		func(m *api.Method) { m.Params[0], m.Params[1] = m.Params[1], m.Params[0] },
		func(m *api.Method) { m.Params[1] = nested },
		func(m *api.Method) { m.Result = api.Void },
		func(m *api.Method) { m.Result = api.Int },
	} {
		l := world()
		turn(&l[point].Methods[0])
		if kinds.Has(l, point, mover) || kinds.Has(l, point, both) || kinds.Fits(l, point, mover) {
			t.Errorf("2.3: turn %d", i)
		}
		turn(&l[mover].Methods[0])
		if !kinds.Has(l, point, mover) || !kinds.Fits(l, point, mover) {
			t.Errorf("2.3: turn %d on both sides", i)
		}
	}
	l := world()
	l[point].Methods[0].Func = 77
	l[point].Methods[1].Params = []int{}
	if !kinds.Has(l, point, both) {
		t.Error("2.3: Has hangs on Func, or on a list of nothing")
	}
}

// TestHasLooksAtAllMethods (2.3): also where a name occurs twice.
func TestHasLooksAtAllMethods(t *testing.T) {
	l := world()
	l[point].Methods = append([]api.Method{{Name: "move"}}, l[point].Methods...)
	if !kinds.Has(l, point, mover) {
		t.Error("2.3: the second method of the name")
	}
	l[mover].Methods = append(l[mover].Methods, api.Method{Name: "move", Func: -1})
	if !kinds.Has(l, point, mover) {
		t.Error("2.3: two methods of one name are asked for")
	}
	l[point].Methods = l[point].Methods[1:]
	if kinds.Has(l, point, mover) {
		t.Error("2.3: only one of two methods is there")
	}
}

// TestFits (2.3): every pair of world.
func TestFits(t *testing.T) {
	l := world()
	for from := -2; from <= nested+2; from++ {
		for to := -2; to <= nested+2; to++ {
			in := from >= 0 && from <= nested && to >= 0 && to <= nested
			want := in && from == to && from != api.Void && from != api.Nil ||
				in && from == api.Nil && to >= point ||
				kinds.Has(l, from, to)
			if kinds.Fits(l, from, to) != want {
				t.Errorf("2.3: Fits(%d, %d) is %v", from, to, !want)
			}
		}
	}
	for _, n := range noNumbers {
		if kinds.Fits(l, n, n) || kinds.Fits(l, api.Nil, n) || kinds.Fits(l, n, point) || kinds.Fits(nil, n, n) {
			t.Errorf("2.3: Fits with %d", n)
		}
	}
	if kinds.Fits(nil, 1, 1) {
		t.Error("2.3: Fits with no types")
	}
}

// TestIsRef (2.3): structs, slices, interfaces and texts.
func TestIsRef(t *testing.T) {
	l := append(world(), api.Type{Kind: api.Face + 1, Name: "X"}, api.Type{Kind: -1, Name: "Y"})
	for i := range l {
		want := i == api.Text || i >= point && i <= nested
		if kinds.IsRef(l, i) != want {
			t.Errorf("2.3: IsRef of %d is %v", i, !want)
		}
	}
	for _, n := range []int{-1, len(l), 1 << 40, -1 << 63} {
		if kinds.IsRef(l, n) {
			t.Errorf("2.3: IsRef of %d", n)
		}
	}
	if kinds.IsRef(nil, api.Text) {
		t.Error("2.3: IsRef with no types")
	}
}

// TestSame (2.3): every field of a type, to the deepest.
func TestSame(t *testing.T) {
	l, k := world(), world()
	for i := range l {
		for j := range k {
			if kinds.Same(l[i], k[j]) != (i == j) {
				t.Errorf("2.3: Same of %d and %d is %v", i, j, i != j)
			}
		}
	}
	for i, turn := range []func(p *api.Type){
		func(p *api.Type) { p.Kind = api.Face },
		func(p *api.Type) { p.Name = "point" },
		func(p *api.Type) { p.Elem = 1 },
		func(p *api.Type) { p.Fields = nil },
		func(p *api.Type) { p.Fields = p.Fields[:2] },
		func(p *api.Type) { p.Fields[2].Name = "All" },
		func(p *api.Type) { p.Fields[0].Type = api.Bool },
		func(p *api.Type) { p.Fields[0], p.Fields[1] = p.Fields[1], p.Fields[0] },
		func(p *api.Type) { p.Methods = nil },
		func(p *api.Type) { p.Methods = p.Methods[:1] },
		func(p *api.Type) { p.Methods[1].Name = "Stop" },
		func(p *api.Type) { p.Methods[1].Result = api.Int },
		func(p *api.Type) { p.Methods[1].Func = 1 },
		func(p *api.Type) { p.Methods[1].Params = []int{0} },
		func(p *api.Type) { p.Methods[0].Params = nil },
		func(p *api.Type) { p.Methods[0].Params = p.Methods[0].Params[:1] },
		func(p *api.Type) { p.Methods[0].Params[1] = api.Int },
		func(p *api.Type) { p.Methods[0], p.Methods[1] = p.Methods[1], p.Methods[0] },
	} {
		a, b := world()[point], world()[point]
		turn(&b)
		if kinds.Same(a, b) || kinds.Same(b, a) || !kinds.Same(b, b) {
			t.Errorf("2.3: Same, turn %d", i)
		}
	}
}

// TestSameTakesNothingAsNothing (R2): a nil list and an empty one are equivalent.
func TestSameTakesNothingAsNothing(t *testing.T) {
	a := api.Type{Kind: api.Struct, Name: "T", Methods: []api.Method{{Name: "m"}}}
	b := api.Type{Kind: api.Struct, Name: "T", Fields: []api.Field{}, Methods: []api.Method{{Name: "m", Params: []int{}}}}
	if !kinds.Same(a, b) || !kinds.Same(b, a) || !kinds.Same(api.Type{}, api.Type{Methods: []api.Method{}}) {
		t.Error("2.3: nil and empty")
	}
}

// stir is a source of numbers that is the same in every run.
type stir uint64

func (s *stir) below(n int) int {
	*s = *s*6364136223846793005 + 1442695040888963407
	return int(uint64(*s) >> 33 % uint64(n))
}

// anyType makes a type of few names and numbers, so that equal ones are met often.
func (s *stir) anyType() api.Type {
	made := api.Type{Kind: s.below(4) + 4, Name: string(rune('A' + s.below(2))), Elem: s.below(2)}
	for range s.below(3) {
		made.Fields = append(made.Fields, api.Field{Name: string(rune('a' + s.below(2))), Type: s.below(3)})
	}
	for range s.below(3) {
		m := api.Method{Name: string(rune('a' + s.below(2))), Result: s.below(2), Func: s.below(2)}
		for range s.below(2) {
			m.Params = append(m.Params, s.below(2))
		}
		made.Methods = append(made.Methods, m)
	}
	return made
}

// modelHas says 2.3's Has in the means of the library.
func modelHas(s, f api.Type) bool {
	if s.Kind != api.Struct || f.Kind != api.Face {
		return false
	}
	return !slices.ContainsFunc(f.Methods, func(asked api.Method) bool {
		return !slices.ContainsFunc(s.Methods, func(m api.Method) bool {
			return m.Name == asked.Name && m.Result == asked.Result && slices.Equal(m.Params, asked.Params)
		})
	})
}

// TestModel (2.3): Has, Fits, IsRef and Same of any types, right ones or not, beside a plain model.
func TestModel(t *testing.T) {
	s := stir(2)
	for range 20000 {
		l := append(kinds.Base(), s.anyType(), s.anyType())
		a, b := l[5], l[6]
		nillable := b.Kind >= api.Struct
		if kinds.Has(l, 5, 6) != modelHas(a, b) {
			t.Fatalf("2.3: Has of %v, %v", a, b)
		}
		if kinds.Fits(l, 5, 6) != (modelHas(a, b) || a.Kind == api.Nil && nillable) || kinds.Fits(l, 4, 6) != nillable {
			t.Fatalf("2.3: Fits of %v, %v", a, b)
		}
		if kinds.IsRef(l, 6) != nillable {
			t.Fatalf("2.3: IsRef of %v", b)
		}
		if kinds.Same(a, b) != reflect.DeepEqual(a, b) {
			t.Fatalf("2.3: Same of %v, %v", a, b)
		}
	}
}
