package kinds_test

import (
	"math"
	"slices"
	"strconv"
	"testing"

	"turnstone/api"
	"turnstone/kinds"
)

// turned is world with one turn.
func turned(turn func(l []api.Type)) []api.Type {
	l := world()
	turn(l)
	return l
}

// longer is world with more types behind.
func longer(more ...api.Type) []api.Type {
	return append(world(), more...)
}

func wantRight(t *testing.T, l []api.Type, want bool, what string) {
	t.Helper()
	if kinds.Right(l) != want {
		t.Errorf("2.2: %s: want %v", what, want)
	}
}

// TestRight (2.2): lists that may be.
func TestRight(t *testing.T) {
	wantRight(t, kinds.Base(), true, "Base")
	wantRight(t, world(), true, "world")
	wantRight(t, turned(func(l []api.Type) { l[point].Fields[0].Name = "" }), true, "one field without a name")
	wantRight(t, turned(func(l []api.Type) { l[point].Methods[0].Name = "" }), true, "one method without a name")
	wantRight(t, turned(func(l []api.Type) { l[point].Methods[0].Name = "Point" }), true, "a method with its type's name")
	wantRight(t, turned(func(l []api.Type) { l[point].Fields[0].Name = "int" }), true, "a field with a type's name")
	wantRight(t, turned(func(l []api.Type) { l[point].Methods[0].Func = math.MaxInt }), true, "the greatest Func")
	wantRight(t, turned(func(l []api.Type) { l[point].Methods[1].Func = 3 }), true, "two methods with one Func")
	wantRight(t, longer(api.Type{Kind: api.Slice, Elem: nested + 1}), true, "a slice of itself")
	wantRight(t, turned(func(l []api.Type) { l[empty].Fields, l[empty].Methods = []api.Field{}, []api.Method{} }), true, "lists of nothing")
}

// TestRightBase (2.2): the first five types are those of Base, in every field.
func TestRightBase(t *testing.T) {
	wantRight(t, nil, false, "no type")
	for n := range 5 {
		wantRight(t, kinds.Base()[:n], false, "too few")
		wantRight(t, turned(func(l []api.Type) { l[n].Kind++ }), false, "a kind in Base")
		wantRight(t, turned(func(l []api.Type) { l[n].Name += "x" }), false, "a name in Base")
		wantRight(t, turned(func(l []api.Type) { l[n].Elem = api.Int }), false, "an element in Base")
		wantRight(t, turned(func(l []api.Type) { l[n].Fields = l[point].Fields[:1] }), false, "a field in Base")
		wantRight(t, turned(func(l []api.Type) { l[n].Methods = l[point].Methods[:1] }), false, "a method in Base")
	}
	wantRight(t, turned(func(l []api.Type) { l[1], l[2] = l[2], l[1] }), false, "Base in another order")
}

// TestRightKinds (2.2): the others are structs, slices or interfaces.
func TestRightKinds(t *testing.T) {
	for _, kind := range []int{api.Void, api.Int, api.Bool, api.Text, api.Nil, api.Face + 1, -1, math.MinInt, math.MaxInt} {
		wantRight(t, longer(api.Type{Kind: kind, Name: "New"}), false, "kind "+strconv.Itoa(kind))
	}
	wantRight(t, longer(api.Type{Kind: api.Struct, Name: "New"}), true, "a new struct")
	wantRight(t, longer(api.Type{Kind: api.Face, Name: "New"}), true, "a new interface")
	wantRight(t, longer(api.Type{Kind: api.Slice, Elem: api.Int}), true, "a new slice")
}

// TestRightMaxTypes (2.2): at the limit, and one beyond.
func TestRightMaxTypes(t *testing.T) {
	l := kinds.Base()
	for len(l) < api.MaxTypes {
		l = append(l, api.Type{Kind: api.Struct, Name: "T" + strconv.Itoa(len(l))})
	}
	wantRight(t, l, true, "MaxTypes types")
	wantRight(t, append(l, api.Type{Kind: api.Struct, Name: "T60"}), false, "MaxTypes + 1 types")
	wantRight(t, l[:api.MaxTypes-1], true, "MaxTypes - 1 types")
}

// TestRightStruct (2.2): what a struct is made of.
func TestRightStruct(t *testing.T) {
	wantRight(t, turned(func(l []api.Type) { l[point].Name = "" }), false, "a struct without a name")
	wantRight(t, turned(func(l []api.Type) { l[empty].Elem = api.Int }), false, "a struct with an element")
	wantRight(t, turned(func(l []api.Type) { l[empty].Elem = -1 }), false, "a struct with the element -1")
	wantRight(t, turned(func(l []api.Type) { l[point].Fields[2].Name = "x" }), false, "the first field's name again")
	wantRight(t, turned(func(l []api.Type) { l[point].Fields[2].Name = "next" }), false, "the second field's name again")
	for n := api.MaxFields - 1; n <= api.MaxFields+1; n++ {
		l := turned(func(l []api.Type) { l[point].Fields = manyFields(n) })
		wantRight(t, l, n <= api.MaxFields, strconv.Itoa(n)+" fields")
	}
}

func manyFields(n int) []api.Field {
	var l []api.Field
	for i := range n {
		l = append(l, api.Field{Name: "f" + strconv.Itoa(i), Type: api.Int})
	}
	return l
}

// TestRightSlice (2.2): a slice has an element alone.
func TestRightSlice(t *testing.T) {
	wantRight(t, turned(func(l []api.Type) { l[points].Name = "S" }), false, "a slice with a name")
	wantRight(t, turned(func(l []api.Type) { l[points].Fields = l[point].Fields[:1] }), false, "a slice with a field")
	wantRight(t, turned(func(l []api.Type) { l[points].Methods = l[point].Methods[:1] }), false, "a slice with a method")
	wantRight(t, turned(func(l []api.Type) { l[points].Methods = l[mover].Methods }), false, "a slice with an interface's method")
}

// TestRightFace (2.2): an interface has methods alone.
func TestRightFace(t *testing.T) {
	wantRight(t, turned(func(l []api.Type) { l[anyone].Name = "" }), false, "an interface without a name")
	wantRight(t, turned(func(l []api.Type) { l[anyone].Elem = api.Int }), false, "an interface with an element")
	wantRight(t, turned(func(l []api.Type) { l[anyone].Fields = l[point].Fields[:1] }), false, "an interface with a field")
}

// TestRightMethods (2.2): names, and how many there are, of a struct and of an interface.
func TestRightMethods(t *testing.T) {
	for _, at := range []int{point, both} {
		wantRight(t, turned(func(l []api.Type) { l[at].Methods[1].Name = l[at].Methods[0].Name }), false, "a method's name again")
		for n := api.MaxFields - 1; n <= api.MaxFields+1; n++ {
			l := turned(func(l []api.Type) { l[at].Methods = manyMethods(n, l[at].Methods[0].Func) })
			wantRight(t, l, n <= api.MaxFields, strconv.Itoa(n)+" methods")
		}
	}
	wantRight(t, turned(func(l []api.Type) { l[point].Methods[1].Name = "x" }), false, "the first field's name")
	wantRight(t, turned(func(l []api.Type) { l[point].Methods[0].Name = "all" }), false, "the last field's name")
	l := turned(func(l []api.Type) {
		l[point].Fields, l[point].Methods = manyFields(api.MaxFields), manyMethods(api.MaxFields, 0)
	})
	wantRight(t, l, true, "as many fields and as many methods as there may be")
}

func manyMethods(n, f int) []api.Method {
	var l []api.Method
	for i := range n {
		l = append(l, api.Method{Name: "m" + strconv.Itoa(i), Func: f})
	}
	return l
}

// TestRightParams (2.2): at the limit, and one beyond, of a struct and of an interface.
func TestRightParams(t *testing.T) {
	for _, at := range []int{point, mover} {
		for n := api.MaxParams - 1; n <= api.MaxParams+1; n++ {
			l := turned(func(l []api.Type) { l[at].Methods[0].Params = slices.Repeat([]int{api.Int}, n) })
			wantRight(t, l, n <= api.MaxParams, strconv.Itoa(n)+" parameters")
		}
	}
}

// TestRightFunc (2.2): -1 in an interface, and from 0 on in a struct.
func TestRightFunc(t *testing.T) {
	for _, f := range []int{math.MinInt, -2, -1, 0, 1, math.MaxInt} {
		wantRight(t, turned(func(l []api.Type) { l[point].Methods[1].Func = f }), f >= 0, "a struct's Func "+strconv.Itoa(f))
		wantRight(t, turned(func(l []api.Type) { l[both].Methods[1].Func = f }), f == -1, "an interface's Func "+strconv.Itoa(f))
	}
}

// TestRightValueTypes (2.1, 2.2): which types may stand where a value is, each place of them asked with each number.
func TestRightValueTypes(t *testing.T) {
	places := []func(l []api.Type, n int){
		func(l []api.Type, n int) { l[point].Fields[0].Type = n },
		func(l []api.Type, n int) { l[point].Fields[2].Type = n },
		func(l []api.Type, n int) { l[point].Methods[0].Params[0] = n },
		func(l []api.Type, n int) { l[point].Methods[0].Params[1] = n },
		func(l []api.Type, n int) { l[mover].Methods[0].Params[1] = n },
		func(l []api.Type, n int) { l[nested].Elem = n },
	}
	for i, place := range places {
		for n := -2; n <= nested+2; n++ {
			want := n >= 1 && n <= nested && n != 4
			if i == len(places)-1 {
				want = want && n != point // world has a slice of it already
			}
			wantRight(t, turned(func(l []api.Type) { place(l, n) }), want, "place "+strconv.Itoa(i)+", type "+strconv.Itoa(n))
		}
	}
	for _, at := range []int{point, both} {
		for n := -2; n <= nested+2; n++ {
			want := n >= 0 && n <= nested && n != 4
			wantRight(t, turned(func(l []api.Type) { l[at].Methods[1].Result = n }), want, "result "+strconv.Itoa(n))
		}
	}
	for _, n := range []int{math.MinInt, math.MaxInt, 1 << 32} {
		for _, place := range places {
			wantRight(t, turned(func(l []api.Type) { place(l, n) }), false, "a type far away")
		}
		wantRight(t, turned(func(l []api.Type) { l[point].Methods[1].Result = n }), false, "a result far away")
	}
}

// TestRightTwice (2.2): types that could not be told from each other.
func TestRightTwice(t *testing.T) {
	for _, name := range []string{"int", "bool", "string", "nil", "Point", "Mover", "Empty"} {
		wantRight(t, longer(api.Type{Kind: api.Struct, Name: name}), false, "a struct of the name "+name)
		wantRight(t, longer(api.Type{Kind: api.Face, Name: name}), false, "an interface of the name "+name)
	}
	wantRight(t, longer(api.Type{Kind: api.Struct, Name: "[]Point"}), true, "a struct of a slice's name")
	wantRight(t, longer(api.Type{Kind: api.Slice, Elem: point}), false, "two slices of Point")
	wantRight(t, longer(api.Type{Kind: api.Slice, Elem: points}), false, "two slices of []Point")
	wantRight(t, longer(api.Type{Kind: api.Slice, Elem: empty}), true, "a slice of Empty")
	wantRight(t, longer(api.Type{Kind: api.Slice, Elem: api.Text}, api.Type{Kind: api.Slice, Elem: api.Text}), false, "two slices of string")
	wantRight(t, longer(api.Type{Kind: api.Struct, Name: "New"}, api.Type{Kind: api.Slice, Elem: api.Int}, api.Type{Kind: api.Face, Name: "New"}), false, "one new name twice")
}

// TestRightLeavesItsArgument (R2): also behind the length of the lists.
func TestRightLeavesItsArgument(t *testing.T) {
	whole := longer(api.Type{Kind: api.Struct, Name: "behind"}, api.Type{Kind: api.Struct, Name: "behind"})
	l := whole[:nested+1]
	kinds.Right(l)
	kinds.Name(l, nested)
	kinds.Field(l, point, "all")
	kinds.Method(l, point, "stop")
	kinds.Fits(l, point, both)
	kinds.IsRef(l, points)
	want := longer(api.Type{Kind: api.Struct, Name: "behind"}, api.Type{Kind: api.Struct, Name: "behind"})
	for i := range want {
		if !kinds.Same(whole[i], want[i]) {
			t.Errorf("R2: type %d was turned: %v", i, whole[i])
		}
	}
}
