package token_test

import (
	"math/big"
	"regexp"
	"slices"
	"strings"
	"testing"

	"turnstone/api"
	"turnstone/token"
)

// The kinds of tokens, as patterns; ignored is what stands before one.
var (
	ignored  = regexp.MustCompile(`^(?:[ \t\r]|//[^\n]*)+`)
	aName    = regexp.MustCompile(`^[a-zA-Z_][a-zA-Z0-9_]*`)
	aNumber  = regexp.MustCompile(`^[0-9]+`)
	aText    = regexp.MustCompile(`^"(?:[ !#-\[\]-~]|\\[nt"\\])*"`)
	aSign    = regexp.MustCompile(`^(?::=|==|!=|<=|>=|&&|\|\||[-+*/%<>=!()\[\]{},.])`)
	denoting = strings.NewReplacer(`\n`, "\n", `\t`, "\t", `\"`, `"`, `\\`, `\`)
)

// model divides a text by the patterns, line by line.
func model(s string) ([]token.Token, token.Token, api.Errno) {
	var l []token.Token
	lines := strings.Split(s, "\n")
	for i, line := range lines {
		rest := line
		for {
			rest = rest[len(ignored.FindString(rest)):]
			t, n, e := modelToken(rest)
			if rest == "" {
				t, n, e = token.Token{Kind: token.Semi, Text: ";"}, 0, api.OK
				if len(l) == 0 || l[len(l)-1].Kind < token.Name || !closesModel(l[len(l)-1]) {
					break
				}
			}
			place := token.Token{Line: i + 1, Col: len(line) - len(rest) + 1}
			if e == api.OK && len(l) == api.MaxTokens {
				e = api.ErrLong
			}
			if e != api.OK {
				return nil, place, e
			}
			t.Line, t.Col = place.Line, place.Col
			l = append(l, t)
			rest = rest[n:]
		}
	}
	end := token.Token{Line: len(lines), Col: len(lines[len(lines)-1]) + 1}
	if len(l) == api.MaxTokens {
		return nil, end, api.ErrLong
	}
	return append(l, end), token.Token{}, api.OK
}

func closesModel(t token.Token) bool {
	return t.Kind == token.Text || closes(t.Text)
}

// modelToken is the token at the beginning of s, and how many bytes it has.
func modelToken(s string) (token.Token, int, api.Errno) {
	if strings.HasPrefix(s, ";") {
		return token.Token{Kind: token.Semi, Text: ";"}, 1, api.OK
	}
	if m := aName.FindString(s); m != "" {
		if slices.Contains(strings.Fields(allWords), m) {
			return token.Token{Kind: token.Word, Text: m}, len(m), api.OK
		}
		return token.Token{Kind: token.Name, Text: m}, len(m), api.OK
	}
	if m := aNumber.FindString(s); m != "" {
		n, _ := new(big.Int).SetString(m, 10)
		if !n.IsInt64() {
			return token.Token{}, 0, api.ErrWhole
		}
		return token.Token{Kind: token.Number, Text: m, N: n.Int64()}, len(m), api.OK
	}
	if strings.HasPrefix(s, "\"") {
		m := aText.FindString(s)
		if m == "" || len(denoting.Replace(m[1:len(m)-1])) > api.MaxLen {
			return token.Token{}, 0, api.ErrText
		}
		return token.Token{Kind: token.Text, Text: denoting.Replace(m[1 : len(m)-1])}, len(m), api.OK
	}
	if m := aSign.FindString(s); m != "" {
		return token.Token{Kind: token.Sign, Text: m}, len(m), api.OK
	}
	return token.Token{}, 0, api.ErrChar
}

// pieces are what the texts of TestModel are made of; the last of them are mostly wrong.
func pieces() []string {
	l := strings.Fields(allWords + " " + allSigns + " ; a _b9 x 0 7 12 9223372036854775807 \"\" \"a\\n\" \"\\\\\" \"b;\"")
	l = append(l, " ", " ", "\n", "\n", "\n", "\t", "\r\n", "//", "// a\n", "\"a b\"", "\"\\\"\"")
	return append(l, "@", "&", "|", ":", "\"", "\\", "\x00", "\u00e4", "\x7f", "9223372036854775808", "'", "\"\\q\"")
}

// TestModel (3.1, 3.2): texts of pieces put together by a fixed rule are divided as the patterns divide them.
func TestModel(t *testing.T) {
	all := pieces()
	seed := uint64(1)
	pick := func(n int) int {
		seed = seed*6364136223846793005 + 1442695040888963407
		return int(seed>>33) % n
	}
	for range 20000 {
		var s strings.Builder
		right := len(all)
		if pick(4) > 0 {
			right -= 12
		}
		for range pick(30) {
			s.WriteString(all[pick(right)])
		}
		sameAsModel(t, s.String())
	}
	for range 60 {
		part := all[pick(len(all)-12)] + all[pick(len(all)-12)]
		sameAsModel(t, strings.Repeat(part, min(1+pick(3000), api.MaxText/len(part))))
	}
}

func sameAsModel(t *testing.T, s string) {
	t.Helper()
	l, place, e := token.All(s)
	wantL, wantPlace, wantE := model(s)
	if !slices.Equal(l, wantL) || place != wantPlace || e != wantE {
		t.Fatalf("3.1, 3.2: %q: %+v %+v %d, not %+v %+v %d", s, l, place, e, wantL, wantPlace, wantE)
	}
}
