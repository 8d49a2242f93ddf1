package verify_test

import (
	"strings"
	"testing"

	"turnstone/api"
	"turnstone/code"
	"turnstone/compile"
	"turnstone/verify"
)

// texts are programs that have everything that there is in the language.
func texts() []string {
	return []string{
		"func main() { }",
		"func main() { for { } }",
		"func main() { print(input()) }",
		"func main() { x := 1; for x < 9 { x = x + x } }",
		"func f(a int, b bool) int { return a }; func main() { x := f(1 + 2, true && false); print(x) }",
		"func f(n int) int { if n < 2 { return n } else { return f(n-1) + f(n-2) } }; func main() { print(f(9)) }",
		"func main() { s := \"a\"; for len(s) < 9 { s = s + s; if s[0] == 97 || s >= \"b\" { continue }; break }; print(s != \"\") }",
		"type P struct { x int; next P }; func (p P) last() P { for p.next != nil { p = p.next }; return p }; func main() { p := new(P); p.next = new(P); p.last().x = -4; print(p.next.x) }",
		"type I interface { m(int) int }; type P struct { l []I }; func (p P) m(a int) int { return a % 7 }; func main() { var i I = new(P); l := make([]I, 3); l[1] = i; print(l[1].m(3) == i.(P).m(4)); if !(i == l[0]) { i = nil } }",
		"type T struct { l []T; r [][]int }; func f(t T, n int) T { if n == 0 { return nil }; t.l = make([]T, n); t.l[n-1] = f(new(T), n-1); return t }; func main() { var t T; t = f(t, 3); print(len(t.l)); var b bool; var s string; print(b); print(s); return }",
		"func f() int { for { if true { return 1 } } }; func main() { f(); for 1 < 2 && f() == 1 { for { break }; break } }",
	}
}

// TestTexts (8.4): what Compile returns is accepted, and runs as 9.4 says.
func TestTexts(t *testing.T) {
	s := stir(13)
	for _, text := range texts() {
		p, at, e := compile.Text(text)
		if e != api.OK {
			t.Errorf("%q: %d at %v", text, e, at)
			continue
		}
		wantVerify(t, p, verify.Where{}, api.OK, "8.4: "+text)
		for f := range p.Funcs {
			r := newRunner(t, &s, p, f)
			for range 20 {
				r.run(200)
			}
		}
	}
}

// wantText compares what Verify answers about the program of a text.
func wantText(t *testing.T, text string, where verify.Where, e api.Errno) {
	t.Helper()
	p, at, compiled := compile.Text(text)
	if compiled != api.OK {
		t.Fatalf("8.4: %q: %d at %v", text, compiled, at)
	}
	wantVerify(t, p, where, e, "8.4: "+text[:min(len(text), 300)])
}

// TestTooLongName (8.4): the first exception, a text of which is the name of a method that is invoked.
func TestTooLongName(t *testing.T) {
	for n, e := range map[int]api.Errno{api.MaxLen: api.OK, api.MaxLen + 1: api.ErrArg} {
		name := strings.Repeat("m", n)
		wantText(t, "func main() { }; type I interface { "+name+"() }; func f(i I) { i."+name+"() }", verify.Where{}, e)
		wantText(t, "func main() { }; type I interface { "+name+"() }; func f(i I) { }", verify.Where{}, api.OK)
		wantText(t, "func main() { }; type P struct { }; func (p P) "+name+"() { p."+name+"() }", verify.Where{}, api.OK)
	}
}

// TestTooManyWords (8.4): the second exception, an Invoke with more than MaxParams words.
func TestTooManyWords(t *testing.T) {
	wantText(t, "func f(i I) { i.m(1, 2, 3, 4, 5, 6, 7) }; type I interface { m(int, int, int, int, int, int, int) }; func main() { }", verify.Where{}, api.OK)
	wantText(t, "func f(i I) { i.m(1, 2, 3, 4, 5, 6, 7, 8) }; type I interface { m(int, int, int, int, int, int, int, int) }; func main() { }", verify.Where{PC: 9}, api.ErrOp)
	wantText(t, "func f(i I) { }; type I interface { m(int, int, int, int, int, int, int, int) }; func main() { }", verify.Where{}, api.OK)
	wantText(t, "func f(a int, b int, c int, d int, e int, f int, g int, h int) { }; func main() { f(1, 2, 3, 4, 5, 6, 7, 8) }", verify.Where{}, api.OK)
}

// TestTooHigh (8.4): the third exception, a stack that gets too high.
func TestTooHigh(t *testing.T) {
	const begin, end = "func f(a int, b int, c int) int { return a }; func main() { print(", ") }"
	calls := strings.Repeat("f(1, 2, ", 29) // 58 words
	close := strings.Repeat(")", 29)
	wantText(t, begin+calls+"1 + 2"+close+end, verify.Where{}, api.OK)
	wantText(t, begin+calls+"1 + (2 + 3)"+close+end, verify.Where{Func: 1, PC: 60}, api.ErrHeight)
	wantText(t, begin+calls+"f(1, 2, 3)"+close+end, verify.Where{Func: 1, PC: 60}, api.ErrHeight)
	wantText(t, begin+strings.Repeat("1 + (", 36)+"1"+strings.Repeat(")", 36)+end, verify.Where{}, api.OK)
}

// TestExamples: those of the chapter.
func TestExamples(t *testing.T) {
	wantMain(t, list(in(code.Bit, 1), in(code.JumpNo, 3), in(code.Bit, 0), ret), 2, api.ErrHeight, "9.2")
	wantMain(t, list(in(code.Jump, 5)), 0, api.ErrJump, "9.1")
	wantMain(t, list(in(code.Bit, 1)), 0, api.ErrFall, "9.1")
}
