package token

import (
	"math"
	"strings"

	"turnstone/api"
)

// signs stand so that a longer one comes before those that it begins with.
var signs = [...]string{
	":=", "==", "!=", "<=", ">=", "&&", "||",
	"+", "-", "*", "/", "%", "<", ">", "=", "!", "(", ")", "[", "]", "{", "}", ",", ".",
}

// scanner goes over a text from left to right.
type scanner struct {
	text  string
	at    int // the next byte
	line  int // the line of that byte
	first int // the first byte of this line
	found []Token
}

// reader reads the token that begins at the next byte, and passes it; its place is set by who calls it.
type reader func() (Token, api.Errno)

// readAll reads the tokens up to the End, or returns the place of the first error.
func (c *scanner) readAll() (Token, api.Errno) {
	for {
		c.skip()
		t, e := c.take(c.choose())
		if e != api.OK {
			return t, e
		}
		if t.Kind == End {
			return Token{}, api.OK
		}
	}
}

// take keeps the token that read answers, or returns the place where it begins, with the error.
func (c *scanner) take(read reader) (Token, api.Errno) {
	line, col := c.line, c.at-c.first+1
	t, e := read()
	if e == api.OK && len(c.found) == api.MaxTokens {
		e = api.ErrLong
	}
	if e != api.OK {
		return Token{Line: line, Col: col}, e
	}
	t.Line, t.Col = line, col
	c.found = append(c.found, t)
	return t, api.OK
}

// skip passes what is ignored. It stops at a line feed at which a Semi belongs; behind the Semi it passes it.
func (c *scanner) skip() {
	for c.at < len(c.text) {
		switch b := c.text[c.at]; {
		case b == '\n' && !c.lacksSemi():
			c.at++
			c.line, c.first = c.line+1, c.at
		case b == ' ' || b == '\t' || b == '\r':
			c.at++
		case strings.HasPrefix(c.text[c.at:], "//"):
			c.skipComment()
		default:
			return
		}
	}
}

func (c *scanner) skipComment() {
	for c.at < len(c.text) && c.text[c.at] != '\n' {
		c.at++
	}
}

// lacksSemi reports whether a Semi belongs behind the last token if its line ends here.
func (c *scanner) lacksSemi() bool {
	if len(c.found) == 0 {
		return false
	}
	switch last := c.found[len(c.found)-1]; last.Kind {
	case Name, Number, Text:
		return true
	case Word:
		return wordMayEnd(last.Text)
	case Sign:
		return last.Text == ")" || last.Text == "]" || last.Text == "}"
	}
	return false
}

// wordMayEnd reports whether a statement may end with the Word s.
func wordMayEnd(s string) bool {
	switch s {
	case "true", "false", "nil", "break", "continue", "return", "int", "bool", "string":
		return true
	}
	return false
}

// choose returns the reader of the kind of token that begins at the next byte.
func (c *scanner) choose() reader {
	if c.at == len(c.text) {
		return c.atEnd()
	}
	switch b := c.text[c.at]; {
	case b == '\n':
		return c.inserted
	case b == ';':
		return c.semi
	case isLetter(b):
		return c.name
	case isDigit(b):
		return c.number
	case b == '"':
		return c.quoted
	}
	return c.sign
}

func (c *scanner) atEnd() reader {
	if c.lacksSemi() {
		return c.inserted
	}
	return c.end
}

func (c *scanner) end() (Token, api.Errno) {
	return Token{Kind: End}, api.OK
}

// inserted answers the Semi that does not stand in the text, and so passes nothing.
func (c *scanner) inserted() (Token, api.Errno) {
	return Token{Kind: Semi, Text: ";"}, api.OK
}

func (c *scanner) semi() (Token, api.Errno) {
	return Token{Kind: Semi, Text: c.pass(1)}, api.OK
}

func (c *scanner) name() (Token, api.Errno) {
	s := c.pass(nameLen(c.text[c.at:]))
	if IsWord(s) {
		return Token{Kind: Word, Text: s}, api.OK
	}
	return Token{Kind: Name, Text: s}, api.OK
}

func (c *scanner) number() (Token, api.Errno) {
	begin, n := c.at, int64(0)
	for c.at < len(c.text) && isDigit(c.text[c.at]) {
		digit := int64(c.text[c.at] - '0')
		if n > (math.MaxInt64-digit)/10 {
			return Token{}, api.ErrWhole
		}
		n = n*10 + digit
		c.at++
	}
	return Token{Kind: Number, Text: c.text[begin:c.at], N: n}, api.OK
}

// quoted reads a Text.
func (c *scanner) quoted() (Token, api.Errno) {
	var told []byte
	c.pass(1)
	for c.at < len(c.text) && c.text[c.at] != '"' {
		b, n := denoted(c.text[c.at:])
		if n == 0 {
			return Token{}, api.ErrText
		}
		told = append(told, b)
		c.pass(n)
	}
	if c.at == len(c.text) || len(told) > api.MaxLen {
		return Token{}, api.ErrText
	}
	c.pass(1)
	return Token{Kind: Text, Text: string(told)}, api.OK
}

// denoted returns the byte that the beginning of s denotes within a Text, and the length of that beginning; 0 if it may not stand there.
func denoted(s string) (byte, int) {
	if s[0] < ' ' || s[0] > '~' {
		return 0, 0
	}
	if s[0] != '\\' {
		return s[0], 1
	}
	if len(s) == 1 {
		return 0, 0
	}
	switch s[1] {
	case 'n':
		return '\n', 2
	case 't':
		return '\t', 2
	case '"', '\\':
		return s[1], 2
	}
	return 0, 0
}

func (c *scanner) sign() (Token, api.Errno) {
	for _, g := range signs {
		if strings.HasPrefix(c.text[c.at:], g) {
			return Token{Kind: Sign, Text: c.pass(len(g))}, api.OK
		}
	}
	return Token{}, api.ErrChar
}

// pass passes the next n bytes, and returns them.
func (c *scanner) pass(n int) string {
	begin := c.at
	c.at += n
	return c.text[begin:c.at]
}
