// Package token splits the text of a program into tokens. See shared/doc/01-token.md.
package token

import (
	"strconv"
	"strings"

	"rollbacknet/api"
)

// Scan returns the tokens of a text, or the byte offset of an error.
func Scan(text string) ([]api.Token, int, api.Errno) {
	if len(text) > api.MaxText {
		return nil, 0, api.ErrTooLong
	}
	var l []api.Token
	at := 0
scan:
	for at < len(text) {
		if isBlank(text[at]) {
			at++
			continue scan
		}
		if text[at] == '#' {
			for ; at < len(text); at++ {
				if text[at] == '\n' {
					continue scan
				}
			}
			break scan
		}
		t, size, e := first(text[at:])
		if e != api.OK {
			return nil, at, e
		}
		t.At = at
		l = append(l, t)
		at += size
	}
	return l, 0, api.OK
}

// Print returns tokens as a text.
func Print(l []api.Token) string {
	var b strings.Builder
	for i, t := range l {
		if i > 0 {
			b.WriteByte(' ')
		}
		switch t.Kind {
		case api.Name, api.Sign:
			b.WriteString(t.Text)
		case api.Number:
			b.WriteString(strconv.Itoa(max(t.Value, 0)))
		}
	}
	return b.String()
}

// Valid reports whether a text is a name that may be declared.
func Valid(name string) bool {
	if name == "" || len(name) > api.MaxName || !isLetter(name[0]) {
		return false
	}
	return nameSize(name) == len(name) && !Reserved(name)
}

// Reserved reports whether a text is a reserved word.
func Reserved(name string) bool {
	switch name {
	case "var", "array", "on", "start", "message", "tick", "input",
		"if", "else", "while", "send", "output",
		"self", "procs", "from", "value":
		return true
	}
	return false
}

// first returns the token that a text begins with, without its place, and its number of bytes. The text is not empty and begins with neither a blank nor a comment.
func first(text string) (api.Token, int, api.Errno) {
	switch c := text[0]; {
	case isDigit(c):
		return number(text)
	case isLetter(c):
		return name(text)
	}
	return sign(text)
}

// number returns the number that a text begins with, and its number of bytes.
func number(text string) (api.Token, int, api.Errno) {
	size := numberSize(text)
	if size < len(text) && isWord(text[size]) {
		return api.Token{}, 0, api.ErrSyntax
	}
	// Digits alone fail for no other reason than their value.
	v, err := strconv.Atoi(text[:size])
	if err != nil {
		return api.Token{}, 0, api.ErrRange
	}
	return api.Token{Kind: api.Number, Value: v}, size, api.OK
}

// name returns the name that a text begins with, and its number of bytes.
func name(text string) (api.Token, int, api.Errno) {
	size := nameSize(text)
	if size > api.MaxName {
		return api.Token{}, 0, api.ErrTooLong
	}
	return api.Token{Kind: api.Name, Text: text[:size]}, size, api.OK
}

// sign returns the sign that a text begins with, and its number of bytes.
func sign(text string) (api.Token, int, api.Errno) {
	size := signSize(text)
	if size == 0 {
		return api.Token{}, 0, api.ErrSyntax
	}
	return api.Token{Kind: api.Sign, Text: text[:size]}, size, api.OK
}

// numberSize returns the number of bytes of the number that a text begins with. Nothing but a 0 begins with a 0.
func numberSize(text string) int {
	if text[0] == '0' {
		return 1
	}
	n := 1
	for n < len(text) && isDigit(text[n]) {
		n++
	}
	return n
}

// nameSize returns the number of letters, digits and underscores that a text begins with.
func nameSize(text string) int {
	n := 0
	for n < len(text) && isWord(text[n]) {
		n++
	}
	return n
}

// signSize returns the number of bytes of the longest sign that a text begins with, 0 if there is none.
func signSize(text string) int {
	var second byte
	if len(text) > 1 {
		second = text[1]
	}
	switch c := text[0]; c {
	case '&', '|':
		if second == c {
			return 2
		}
	case '=', '!', '<', '>':
		if second == '=' {
			return 2
		}
		fallthrough
	case '(', ')', '{', '}', '[', ']', ',', ';', '+', '-', '*', '/', '%':
		return 1
	}
	return 0
}

func isBlank(c byte) bool {
	return c == 9 || c == 10 || c == 13 || c == 32
}

func isDigit(c byte) bool {
	return '0' <= c && c <= '9'
}

// isLetter reports whether a byte can begin a name: an underscore counts as a letter.
func isLetter(c byte) bool {
	return 'a' <= c && c <= 'z' || 'A' <= c && c <= 'Z' || c == '_'
}

// isWord reports whether a byte can continue a name.
func isWord(c byte) bool {
	return isLetter(c) || isDigit(c)
}
