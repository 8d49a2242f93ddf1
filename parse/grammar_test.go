package parse_test

import (
	"slices"
	"strings"
	"testing"

	"turnstone/api"
	"turnstone/parse"
	"turnstone/token"
)

// grammar is what a text is made of, a symbol a line. How tight a sign binds is nothing to whether a text goes on.
const grammar = `
Start : Semis END | Decls END
Semis : | Semis ;
Decls : Semis Decl ; | Decls ; | Decls Decl ;
Decl : type NAME struct { Semis } | type NAME struct { Fields Last } | type NAME interface { Semis } | type NAME interface { Methods Last }
Decl : func NAME ( Params ) Result Block | func ( NAME NAME ) NAME ( Params ) Result Block
Last : | ; Semis
Fields : Semis NAME Type | Fields ; Semis NAME Type
Methods : Semis Method | Methods ; Semis Method
Method : NAME ( ) Result | NAME ( Types ) Result
Types : Type | Types , Type
Result : | Type
Params : | Named
Named : NAME Type | Named , NAME Type
Type : int | bool | string | NAME | [ ] Type
Block : { Semis } | { Stmts Last }
Stmts : Semis Stmt | Stmts ; Semis Stmt
Stmt : Block | var NAME Type | var NAME Type = Expr | If | for Block | for Expr Block | break | continue | return | return Expr | print ( Expr )
Stmt : Expr | Expr := Expr | Expr = Expr
If : if Expr Block | if Expr Block else If | if Expr Block else Block
Expr : Unary | Expr Joint Unary
Joint : || | && | == | != | < | <= | > | >= | + | - | * | / | %
Unary : - Unary | ! Unary | Post
Post : Prime | Post . NAME | Post . NAME Args | Post . ( Type ) | Post [ Expr ]
Prime : NUMBER | TEXT | true | false | nil | NAME | NAME Args | ( Expr ) | len ( Expr ) | make ( Type , Expr ) | new ( Type ) | input ( )
Args : ( ) | ( Exprs )
Exprs : Expr | Exprs , Expr`

// line is one way to make a symbol.
type line struct {
	makes string
	of    []string
}

// item is a line that was begun behind so many tokens, and of which so many parts have been read.
type item struct {
	line, read, begun int
}

// reader reads tokens by the grammar in all ways at once: after each token it has the items that are possible.
type reader struct {
	lines  []line
	makes  map[string][]int
	behind [][]item
}

func newReader() *reader {
	r := &reader{makes: map[string][]int{}}
	for _, s := range strings.Split(strings.TrimSpace(grammar), "\n") {
		words := strings.Fields(s)
		var of []string
		for _, w := range append(words[2:], "|") {
			if w == "|" {
				r.makes[words[0]] = append(r.makes[words[0]], len(r.lines))
				r.lines = append(r.lines, line{words[0], of})
				of = nil
				continue
			}
			of = append(of, w)
		}
	}
	var first []item
	for _, k := range r.makes["Start"] {
		first = append(first, item{line: k})
	}
	r.behind = [][]item{r.spread(first, 0)}
	return r
}

// empties are the symbols that may be made of nothing.
var empties = []string{"Semis", "Last", "Result", "Params"}

// next is the symbol that the item reads next, or "" if it is at its end.
func (r *reader) next(i item) string {
	of := r.lines[i.line].of
	if i.read == len(of) {
		return ""
	}
	return of[i.read]
}

// spread adds to l, the items behind so many tokens, all that follow from them without another token.
func (r *reader) spread(l []item, tokens int) []item {
	seen := map[item]bool{}
	var found []item
	add := func(i item) {
		if !seen[i] {
			seen[i] = true
			found = append(found, i)
		}
	}
	for _, i := range l {
		add(i)
	}
	for k := 0; k < len(found); k++ {
		i := found[k]
		next := r.next(i)
		if next == "" && i.begun < tokens {
			for _, outer := range r.behind[i.begun] {
				if r.next(outer) == r.lines[i.line].makes {
					add(item{outer.line, outer.read + 1, outer.begun})
				}
			}
		}
		for _, n := range r.makes[next] {
			add(item{n, 0, tokens})
		}
		if slices.Contains(empties, next) {
			add(item{i.line, i.read + 1, i.begun})
		}
	}
	return found
}

// take reads one more token if the text may go on with it.
func (r *reader) take(t string) bool {
	var l []item
	for _, i := range r.behind[len(r.behind)-1] {
		if r.next(i) == t {
			l = append(l, item{i.line, i.read + 1, i.begun})
		}
	}
	if len(l) == 0 {
		return false
	}
	r.behind = append(r.behind, r.spread(l, len(r.behind)))
	return true
}

// symbol is what the grammar calls a token.
func symbol(t token.Token) string {
	switch t.Kind {
	case token.End:
		return "END"
	case token.Name:
		return "NAME"
	case token.Number:
		return "NUMBER"
	case token.Text:
		return "TEXT"
	}
	return t.Text
}

// wantByGrammar fails the test if Parse does not find the first token of l with which the text s does not go on; r has read the first tokens.
func wantByGrammar(t *testing.T, r *reader, s string, l []token.Token) {
	t.Helper()
	read := len(r.behind)
	defer func() { r.behind = r.behind[:read] }()
	for _, k := range l[read-1:] {
		if !r.take(symbol(k)) {
			wantError(t, s, k.Line, k.Col, api.ErrToken)
			return
		}
	}
	if n, place, e := parse.Parse(s); e != api.OK || place != (api.Place{}) || n.Kind != api.NFile {
		t.Errorf("4.1: %q: kind %d, error %d at %v", s, n.Kind, e, place)
	}
}

// goOn are texts with whatever a text may hold; each is cut behind each of its tokens.
var goOn = []string{
	"; type A struct { x int; y []B }; type B interface { ; m(int, []A) bool; n() }",
	"func f(a int, b []A) [][]A { return } ; func (a A) g() { }",
	"func f() { var x int; var y []A = -1 ; if a { } else if b { break } else { continue } ; }",
	"func f() { for { print ( a ) } ; for a < b { ; x = y ; } ; return a ; return }",
	"func f() { x.y[1].z(2, 3).(T)[x()] := f(1, \"t\") + (a) * ! b ; { } }",
	"func f() { len(make(T, n)) = new([]T) && input() == nil || true ; false }",
}

// TestGoesOn (4.1): behind each beginning of a text, each token either goes on or is where ErrToken is returned.
func TestGoesOn(t *testing.T) {
	for _, whole := range goOn {
		l, _, e := token.All(whole)
		if e != api.OK {
			t.Fatalf("%q: %d", whole, e)
		}
		r := newReader()
		for i, k := range l {
			if k.Col > len(whole) {
				break
			}
			before := whole[:k.Col-1] + " "
			for _, next := range append(strings.Fields(someTokens), "") {
				all, _, e := token.All(before + next)
				if e != api.OK || !slices.Equal(all[:i], l[:i]) {
					t.Fatalf("%q: %d", before+next, e)
				}
				wantByGrammar(t, r, before+next, all)
			}
			if !r.take(symbol(k)) {
				t.Fatalf("%q does not go on behind %q", whole, before)
			}
		}
	}
}
