package token_test

import (
	"slices"
	"strings"
	"testing"

	"turnstone/api"
	"turnstone/token"
)

// allWords are the names that the language keeps.
const allWords = "type struct interface func var if else for break continue return print len make new input true false nil int bool string"

// closingWords are those behind which a Semi is inserted.
const closingWords = "true false nil break continue return int bool string"

// allSigns are the signs, the longer ones first.
const allSigns = ":= == != <= >= && || + - * / % < > = ! ( ) [ ] { } , ."

// tok is a Token at a place, without a number.
func tok(kind int, text string, line, col int) token.Token {
	return token.Token{Kind: kind, Text: text, Line: line, Col: col}
}

// num is a Number at a place.
func num(text string, n int64, line, col int) token.Token {
	return token.Token{Kind: token.Number, Text: text, N: n, Line: line, Col: col}
}

// short is the beginning of a text, for messages.
func short(s string) string {
	return s[:min(len(s), 40)]
}

// wantTokens fails the test if s does not have these tokens.
func wantTokens(t *testing.T, promise, s string, want ...token.Token) {
	t.Helper()
	l, place, e := token.All(s)
	if e != api.OK || place != (token.Token{}) || !slices.Equal(l, want) {
		t.Errorf("%s: %q: %+v %+v %d, not %+v", promise, short(s), l[:min(len(l), 20)], place, e, want[:min(len(want), 20)])
	}
}

// wantError fails the test if s is not refused with e at this place, with all else zero.
func wantError(t *testing.T, promise, s string, line, col int, want api.Errno) {
	t.Helper()
	l, place, e := token.All(s)
	if e != want || place != (token.Token{Line: line, Col: col}) || len(l) != 0 {
		t.Errorf("%s: %q: %d tokens, %+v, error %d, not error %d at %d:%d", promise, short(s), len(l), place, e, want, line, col)
	}
}

// TestOrder (3.1): the tokens of ordinary texts, in order, and their places.
func TestOrder(t *testing.T) {
	wantTokens(t, "3.1", "x := 5 // a",
		tok(token.Name, "x", 1, 1), tok(token.Sign, ":=", 1, 3), num("5", 5, 1, 6), tok(token.Semi, ";", 1, 12), tok(token.End, "", 1, 12))
	wantTokens(t, "3.1", "func main() {\n\tprint(\"a b\" + s.t);\n}\n",
		tok(token.Word, "func", 1, 1), tok(token.Name, "main", 1, 6), tok(token.Sign, "(", 1, 10), tok(token.Sign, ")", 1, 11), tok(token.Sign, "{", 1, 13),
		tok(token.Word, "print", 2, 2), tok(token.Sign, "(", 2, 7), tok(token.Text, "a b", 2, 8), tok(token.Sign, "+", 2, 14),
		tok(token.Name, "s", 2, 16), tok(token.Sign, ".", 2, 17), tok(token.Name, "t", 2, 18), tok(token.Sign, ")", 2, 19), tok(token.Semi, ";", 2, 20),
		tok(token.Sign, "}", 3, 1), tok(token.Semi, ";", 3, 2), tok(token.End, "", 4, 1))
	wantTokens(t, "3.1", "1x\"y\"z",
		num("1", 1, 1, 1), tok(token.Name, "x", 1, 2), tok(token.Text, "y", 1, 3), tok(token.Name, "z", 1, 6), tok(token.Semi, ";", 1, 7), tok(token.End, "", 1, 7))
}

// TestIgnored (3.1): spaces, tabs, carriage returns and comments separate tokens; Col counts their bytes.
func TestIgnored(t *testing.T) {
	for s, end := range map[string]api.Place{
		"": {Line: 1, Col: 1}, " ": {Line: 1, Col: 2}, "\t\r ": {Line: 1, Col: 4}, "\n": {Line: 2, Col: 1}, "\r\n \n\t": {Line: 3, Col: 2},
		"//": {Line: 1, Col: 3}, "// a @ \" \x00\xff": {Line: 1, Col: 12}, " // a\n": {Line: 2, Col: 1}, "///*/\n//\n": {Line: 3, Col: 1}, "//\r": {Line: 1, Col: 4},
	} {
		wantTokens(t, "3.1", s, tok(token.End, "", end.Line, end.Col))
	}
	wantTokens(t, "3.1", "a\tb \r c",
		tok(token.Name, "a", 1, 1), tok(token.Name, "b", 1, 3), tok(token.Name, "c", 1, 7), tok(token.Semi, ";", 1, 8), tok(token.End, "", 1, 8))
	wantTokens(t, "3.1", "a/ /b//c\n//d\n.",
		tok(token.Name, "a", 1, 1), tok(token.Sign, "/", 1, 2), tok(token.Sign, "/", 1, 4), tok(token.Name, "b", 1, 5), tok(token.Semi, ";", 1, 9),
		tok(token.Sign, ".", 3, 1), tok(token.End, "", 3, 2))
	wantTokens(t, "3.1", "a // \u00e4\nb",
		tok(token.Name, "a", 1, 1), tok(token.Semi, ";", 1, 8), tok(token.Name, "b", 2, 1), tok(token.Semi, ";", 2, 2), tok(token.End, "", 2, 2))
	wantTokens(t, "3.1", "\"//\" // \"",
		tok(token.Text, "//", 1, 1), tok(token.Semi, ";", 1, 10), tok(token.End, "", 1, 10))
	for _, b := range []string{"\v", "\f", "\x00", "\u00a0", "\u0085", "\u2028", "\ufeff"} {
		wantError(t, "3.1", "a"+b+"b", 1, 2, api.ErrChar)
	}
}

// closes reports whether a Semi is inserted behind the token that s is.
func closes(s string) bool {
	if slices.Contains(strings.Fields(allWords), s) {
		return slices.Contains(strings.Fields(closingWords), s)
	}
	if slices.Contains(strings.Fields(allSigns), s) {
		return s == ")" || s == "]" || s == "}"
	}
	return s != ";"
}

// TestInserted (3.1): which tokens a Semi follows at the end of a line and of the text, and its place.
func TestInserted(t *testing.T) {
	all := strings.Fields(allWords + " " + allSigns + " ; a _ truex 0 7 \"\" \"a\" \")\"")
	for _, s := range all {
		for _, between := range []string{"", " ", "\t\r", " // b", "//;"} {
			col := len(s + between)
			for _, end := range []string{"", "\n", "\n\n", "\n \r\n// c\n"} {
				if s == "/" && strings.HasPrefix(between, "/") {
					continue
				}
				text := s + between + end
				l, _, e := token.All(text)
				if e != api.OK || len(l) < 2 || l[len(l)-1].Kind != token.End {
					t.Fatalf("3.1: %q: %+v %d", text, l, e)
				}
				var want []token.Token
				if closes(s) {
					want = append(want, tok(token.Semi, ";", 1, col+1))
				}
				if !slices.Equal(l[1:len(l)-1], want) {
					t.Errorf("3.1: %q: %+v, not %+v", text, l[1:], want)
				}
			}
		}
	}
	wantTokens(t, "3.1", "a;\nb;;\n;c",
		tok(token.Name, "a", 1, 1), tok(token.Semi, ";", 1, 2), tok(token.Name, "b", 2, 1), tok(token.Semi, ";", 2, 2), tok(token.Semi, ";", 2, 3),
		tok(token.Semi, ";", 3, 1), tok(token.Name, "c", 3, 2), tok(token.Semi, ";", 3, 3), tok(token.End, "", 3, 3))
	wantTokens(t, "3.1", "\n\na +\nb\n\n",
		tok(token.Name, "a", 3, 1), tok(token.Sign, "+", 3, 3), tok(token.Name, "b", 4, 1), tok(token.Semi, ";", 4, 2), tok(token.End, "", 6, 1))
	wantTokens(t, "3.1", "a\rb", tok(token.Name, "a", 1, 1), tok(token.Name, "b", 1, 3), tok(token.Semi, ";", 1, 4), tok(token.End, "", 1, 4))
}

// TestLongText (3.1): a text of MaxText bytes is read, one more is refused whatever stands in it.
func TestLongText(t *testing.T) {
	blank := strings.Repeat(" ", api.MaxText-1)
	wantTokens(t, "3.1", blank+" ", tok(token.End, "", 1, api.MaxText+1))
	wantTokens(t, "3.1", blank+"a", tok(token.Name, "a", 1, api.MaxText), tok(token.Semi, ";", 1, api.MaxText+1), tok(token.End, "", 1, api.MaxText+1))
	wantTokens(t, "3.1", blank+"\n", tok(token.End, "", 2, 1))
	wantError(t, "3.1", blank+"@", 1, api.MaxText, api.ErrChar)
	wantError(t, "3.1", blank+"  ", 1, 1, api.ErrLong)
	wantError(t, "3.1", "\n"+blank+"\n", 1, 1, api.ErrLong)
	wantError(t, "3.1", "@"+blank+" ", 1, 1, api.ErrLong)
	wantError(t, "3.1", strings.Repeat("\"", api.MaxText*3), 1, 1, api.ErrLong)
	name := strings.Repeat("a", api.MaxText)
	wantTokens(t, "3.1", name, tok(token.Name, name, 1, 1), tok(token.Semi, ";", 1, api.MaxText+1), tok(token.End, "", 1, api.MaxText+1))
}

// TestManyTokens (3.1): MaxTokens tokens, with Semis and End, and one more, which must be valid to be the one too many.
func TestManyTokens(t *testing.T) {
	const most = api.MaxTokens
	for s, want := range map[string]int{
		strings.Repeat(";", most-1):            most,
		strings.Repeat(";", most-1) + "\n// a": most,
		strings.Repeat("a ", most-2):           most,
		strings.Repeat("a\n", most/2-1) + ",":  most,
		strings.Repeat(";", most-2):            most - 1,
	} {
		if l, place, e := token.All(s); len(l) != want || place != (token.Token{}) || e != api.OK {
			t.Errorf("3.1: %q: %d tokens, %d", short(s), len(l), e)
		}
	}
	wantError(t, "3.1", strings.Repeat(";", most), 1, most+1, api.ErrLong)
	wantError(t, "3.1", strings.Repeat(";", most)+"\n // a", 2, 6, api.ErrLong)
	wantError(t, "3.1", strings.Repeat(";", most)+" \n a @", 2, 2, api.ErrLong)
	wantError(t, "3.1", strings.Repeat(";", most+1)+"@", 1, most+1, api.ErrLong)
	wantError(t, "3.1", strings.Repeat(";", most-2)+"a", 1, most, api.ErrLong)
	wantError(t, "3.1", strings.Repeat(";", most-1)+"a \n@", 1, most+2, api.ErrLong)
	wantError(t, "3.1", strings.Repeat("a\n", most/2), most/2+1, 1, api.ErrLong)
	wantError(t, "3.1", strings.Repeat(";", most)+"\"a\"", 1, most+1, api.ErrLong)
	for s, want := range map[string]api.Errno{"@": api.ErrChar, "\"a": api.ErrText, "9223372036854775808": api.ErrWhole, "&": api.ErrChar} {
		wantError(t, "3.1", strings.Repeat(";", most)+" "+s, 1, most+2, want)
		wantError(t, "3.1", strings.Repeat(";", most-1)+s, 1, most, want)
		wantError(t, "3.1", strings.Repeat(";", most+1)+s, 1, most+1, api.ErrLong)
	}
}

// TestFirstError (3.1): the first error from the left, at the beginning of its token.
func TestFirstError(t *testing.T) {
	wantError(t, "3.1", "a @ \"b", 1, 3, api.ErrChar)
	wantError(t, "3.1", "a \"b\n@", 1, 3, api.ErrText)
	wantError(t, "3.1", "a\n b 99999999999999999999 @", 2, 4, api.ErrWhole)
	wantError(t, "3.1", "@", 1, 1, api.ErrChar)
	wantError(t, "3.1", "\n\n\t@", 3, 2, api.ErrChar)
	wantError(t, "3.1", "// \u00e4\n\"\\q\" \"", 2, 1, api.ErrText)
	wantError(t, "3.1", "\"\u00e4\" @", 1, 1, api.ErrText)
	wantError(t, "3.1", "9223372036854775808x@", 1, 1, api.ErrWhole)
}

// TestNewMemory (R2): what an answer's list is turned to is seen by no other answer, nor what is appended to it.
func TestNewMemory(t *testing.T) {
	s := "a b 1 \"x\\n\" + \nreturn"
	first, _, _ := token.All(s)
	kept := slices.Clone(first)
	second, _, _ := token.All(s)
	if !slices.Equal(second, kept) {
		t.Errorf("R4: %+v, then %+v", kept, second)
	}
	whole := second[:cap(second)]
	for i := range whole {
		whole[i] = tok(99, "turned", -1, -1)
	}
	third, _, _ := token.All(s)
	if !slices.Equal(first, kept) || !slices.Equal(third, kept) {
		t.Errorf("R2: %+v and %+v, not %+v", first, third, kept)
	}
}
