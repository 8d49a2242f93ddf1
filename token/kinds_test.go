package token_test

import (
	"math"
	"slices"
	"strconv"
	"strings"
	"testing"

	"turnstone/api"
	"turnstone/token"
)

// isLetter and isDigit are said by lists, so that they share nothing with the program.
func isLetter(b byte) bool {
	return strings.IndexByte("abcdefghijklmnopqrstuvwxyzABCDEFGHIJKLMNOPQRSTUVWXYZ_", b) >= 0
}

func isDigit(b byte) bool {
	return strings.IndexByte("0123456789", b) >= 0
}

// wantOne fails the test if s is not one token, behind which a Semi stands.
func wantOne(t *testing.T, promise, s string, want token.Token) {
	t.Helper()
	want.Line, want.Col = 1, 1
	wantTokens(t, promise, s, want, tok(token.Semi, ";", 1, len(s)+1), tok(token.End, "", 1, len(s)+1))
}

// TestNamesAndWords (3.2): what a Name and a Word may be, by All, IsWord and IsName.
func TestNamesAndWords(t *testing.T) {
	words := strings.Fields(allWords)
	for _, w := range words {
		if !token.IsWord(w) || token.IsName(w) {
			t.Errorf("3.2: %q: IsWord %v, IsName %v", w, token.IsWord(w), token.IsName(w))
		}
		wantTokens(t, "3.2", w+";", tok(token.Word, w, 1, 1), tok(token.Semi, ";", 1, len(w)+1), tok(token.End, "", 1, len(w)+2))
		for _, s := range []string{w + "x", w + "1", w + "_", "_" + w, "x" + w, w + w, w[:len(w)-1], strings.ToUpper(w), strings.ToUpper(w[:1]) + w[1:]} {
			if slices.Contains(words, s) {
				continue
			}
			if token.IsWord(s) || !token.IsName(s) {
				t.Errorf("3.2: %q: IsWord %v, IsName %v", s, token.IsWord(s), token.IsName(s))
			}
			wantOne(t, "3.2", s, token.Token{Kind: token.Name, Text: s})
		}
		for _, s := range []string{w + " ", " " + w, w + "\n", w + ".", w + "\x00", w + " " + w, "1" + w, "\"" + w + "\""} {
			if token.IsWord(s) || token.IsName(s) {
				t.Errorf("3.2: %q: IsWord %v, IsName %v", s, token.IsWord(s), token.IsName(s))
			}
		}
	}
	for _, s := range []string{"", "0", "9a", "a b", "a.b", "a-", ";", "\u00e4", "a\u00e4", "a\xff", " a", "a\n", "+", "\"a\"", ":="} {
		if token.IsWord(s) || token.IsName(s) {
			t.Errorf("3.2: %q: IsWord %v, IsName %v", s, token.IsWord(s), token.IsName(s))
		}
	}
	for _, s := range []string{"a", "z", "A", "Z", "_", "__", "a0", "z9", "_1", "aZ_9", "main", "String", strings.Repeat("a_9", 40000)} {
		if token.IsWord(s) || !token.IsName(s) {
			t.Errorf("3.2: %q: IsWord %v, IsName %v", short(s), token.IsWord(s), token.IsName(s))
		}
	}
}

// TestNameBytes (3.2): each byte as the first of a name, and as a later one.
func TestNameBytes(t *testing.T) {
	for i := range 256 {
		b := byte(i)
		first, later := string([]byte{b}), string([]byte{'q', b})
		if token.IsName(first) != isLetter(b) || token.IsName(later) != (isLetter(b) || isDigit(b)) {
			t.Errorf("3.2: byte %d: IsName %v first, %v later", b, token.IsName(first), token.IsName(later))
		}
		if token.IsWord(first) || token.IsWord(later) {
			t.Errorf("3.2: byte %d: IsWord %v first, %v later", b, token.IsWord(first), token.IsWord(later))
		}
		if token.IsName(first) {
			wantOne(t, "3.2", first, token.Token{Kind: token.Name, Text: first})
		}
		if token.IsName(later) {
			wantOne(t, "3.2", later, token.Token{Kind: token.Name, Text: later})
		}
	}
}

// TestNumbers (3.2): values up to the greatest, and those beyond, among them those that wrap round to small ones.
func TestNumbers(t *testing.T) {
	zeros := strings.Repeat("0", 10000)
	for s, n := range map[string]int64{
		"0": 0, "00": 0, "7": 7, "007": 7, "10": 10, "1234567890": 1234567890, zeros: 0, zeros + "12": 12,
		"9223372036854775807": math.MaxInt64, "009223372036854775807": math.MaxInt64, "9223372036854775806": math.MaxInt64 - 1, "9223372036854775799": math.MaxInt64 - 8,
		"922337203685477580": math.MaxInt64 / 10, "4611686018427387904": 1 << 62,
	} {
		wantOne(t, "3.2", s, token.Token{Kind: token.Number, Text: s, N: n})
	}
	for _, s := range []string{
		"9223372036854775808", "9223372036854775809", "9223372036854775810", "9999999999999999999", "10000000000000000000", "92233720368547758070",
		"18446744073709551615", "18446744073709551616", "18446744073709551621", "36893488147419103232", "0009223372036854775808", strings.Repeat("9", 10000), "1" + zeros,
	} {
		wantError(t, "3.2", s, 1, 1, api.ErrWhole)
		wantError(t, "3.2", "a;\n-"+s+";", 2, 2, api.ErrWhole)
	}
	wantTokens(t, "3.2", "-1.5e0x1", tok(token.Sign, "-", 1, 1), num("1", 1, 1, 2), tok(token.Sign, ".", 1, 3), num("5", 5, 1, 4),
		tok(token.Name, "e0x1", 1, 5), tok(token.Semi, ";", 1, 9), tok(token.End, "", 1, 9))
	wantTokens(t, "3.2", "1_0", num("1", 1, 1, 1), tok(token.Name, "_0", 1, 2), tok(token.Semi, ";", 1, 4), tok(token.End, "", 1, 4))
}

// TestTextBytes (3.2): each byte in a Text, and each behind a backslash.
func TestTextBytes(t *testing.T) {
	escapes := map[byte]string{'n': "\n", 't': "\t", '"': "\"", '\\': "\\"}
	for i := range 256 {
		b := byte(i)
		plain := "\"a" + string([]byte{b}) + "b\""
		switch {
		case b == '"':
			wantError(t, "3.2", plain, 1, 5, api.ErrText)
		case b < 32 || b > 126 || b == '\\':
			wantError(t, "3.2", plain, 1, 1, api.ErrText)
		default:
			wantOne(t, "3.2", plain, token.Token{Kind: token.Text, Text: "a" + string([]byte{b}) + "b"})
		}
		escaped := "\"a\\" + string([]byte{b}) + "b\""
		if says, ok := escapes[b]; ok {
			wantOne(t, "3.2", escaped, token.Token{Kind: token.Text, Text: "a" + says + "b"})
		} else {
			wantError(t, "3.2", escaped, 1, 1, api.ErrText)
		}
	}
}

// TestTexts (3.2): where a Text ends, and how long it may be.
func TestTexts(t *testing.T) {
	for s, says := range map[string]string{
		`""`: "", `" "`: " ", `"\\n"`: `\n`, `"\"\""`: `""`, `"\n\t\\\""`: "\n\t\\\"", `"'` + "`" + `'"`: "'`'", `";)}"`: ";)}", `"if"`: "if", `"12"`: "12",
	} {
		wantOne(t, "3.2", s, token.Token{Kind: token.Text, Text: says})
	}
	wantTokens(t, "3.2", `"a""b"`, tok(token.Text, "a", 1, 1), tok(token.Text, "b", 1, 4), tok(token.Semi, ";", 1, 7), tok(token.End, "", 1, 7))
	for _, s := range []string{
		`"`, `"a`, `"a;`, `"\`, `"\"`, `"a\\\"`, `"\n`, "\"a\n\"", "\"a\r\"", "\"\\\n\"", "\"a // b", "\"a\n", `"\q"`, `"\x41"`, `"\u0041"`, `"\0"`, `"\'"`, `"\N"`, "\"\u00e4\"",
	} {
		wantError(t, "3.2", s, 1, 1, api.ErrText)
		wantError(t, "3.2", "x\n  "+s, 2, 3, api.ErrText)
	}
	for _, part := range []string{"x", `\n`, `\\`, `\"`, "/"} {
		l, _, e := token.All(`"` + strings.Repeat(part, api.MaxLen) + `"`)
		if e != api.OK || len(l) != 3 || len(l[0].Text) != api.MaxLen || l[0].Kind != token.Text {
			t.Errorf("3.2: MaxLen times %q: %d", part, e)
		}
		wantError(t, "3.2", `;"`+strings.Repeat(part, api.MaxLen+1)+`"`, 1, 2, api.ErrText)
	}
}

// longest is the longest sign at the beginning of s.
func longest(s string) string {
	best := ""
	for _, g := range strings.Fields(allSigns) {
		if strings.HasPrefix(s, g) && len(g) > len(best) {
			best = g
		}
	}
	return best
}

// TestSigns (3.2): each sign alone, and each beside each other one, with and without a space between.
func TestSigns(t *testing.T) {
	signs := strings.Fields(allSigns)
	for _, a := range signs {
		wantTokens(t, "3.2", a+";", tok(token.Sign, a, 1, 1), tok(token.Semi, ";", 1, len(a)+1), tok(token.End, "", 1, len(a)+2))
		for _, b := range signs {
			wantSigns(t, a+b+";")
			wantTokens(t, "3.2", a+" "+b+";", tok(token.Sign, a, 1, 1), tok(token.Sign, b, 1, len(a)+2), tok(token.Semi, ";", 1, len(a+b)+2), tok(token.End, "", 1, len(a+b)+3))
		}
	}
}

// wantSigns fails the test if s, signs up to a `;`, is not divided into the longest ones.
func wantSigns(t *testing.T, s string) {
	t.Helper()
	if strings.Contains(s, "//") {
		wantTokens(t, "3.1", s, tok(token.End, "", 1, len(s)+1))
		return
	}
	var want []token.Token
	at := 0
	for s[at] != ';' {
		g := longest(s[at:])
		want = append(want, tok(token.Sign, g, 1, at+1))
		at += len(g)
	}
	wantTokens(t, "3.2", s, append(want, tok(token.Semi, ";", 1, at+1), tok(token.End, "", 1, at+2))...)
}

// TestBytes (3.2): each byte that begins nothing is refused where it stands, and each other one is not.
func TestBytes(t *testing.T) {
	for i := range 256 {
		b := string([]byte{byte(i)})
		begins := isLetter(b[0]) || isDigit(b[0]) || strings.Contains(" \t\r\n;", b) || longest(b) != ""
		switch {
		case b == "\"":
			wantError(t, "3.2", b, 1, 1, api.ErrText)
		case begins:
			if l, _, e := token.All(b); e != api.OK || len(l) == 0 {
				t.Errorf("3.2: byte %d: %d", i, e)
			}
		default:
			wantError(t, "3.2", b, 1, 1, api.ErrChar)
			wantError(t, "3.2", "a+\n;"+b+"a", 2, 2, api.ErrChar)
			wantError(t, "3.2", "(("+b+" "+b, 1, 3, api.ErrChar)
		}
	}
	for _, half := range []string{":", "&", "|"} {
		for _, next := range []string{" =", " :", " &", " |", "a", "!", "\n=", ""} {
			wantError(t, "3.2", "a "+half+next, 1, 3, api.ErrChar)
		}
		wantError(t, "3.2", "=="+half, 1, 3, api.ErrChar)
	}
	wantError(t, "3.2", "&&&", 1, 3, api.ErrChar)
	wantError(t, "3.2", "|||", 1, 3, api.ErrChar)
	wantError(t, "3.2", "::=", 1, 1, api.ErrChar)
}

// TestNumberText (3.2): N is told for Numbers alone, and Text as it is written.
func TestNumberText(t *testing.T) {
	l, _, _ := token.All("a 12 \"34\" + if ; 0056\n")
	for i, k := range l {
		written := k.Kind == token.Number
		if !written && k.N != 0 || written && k.Text != "12" && k.Text != "0056" {
			t.Errorf("3.2: token %d: %s", i, k.Text+" "+strconv.FormatInt(k.N, 10))
		}
	}
}
